import PyProof.Rows.All
import Wide.All
import OpenK.AllK
import Wide.FinOn
import Lean
import PyProof.EqAt
import PyProof.EqKinds
import PyProof.TupleCall
import PyProof.SetKind
import PyProof.SetNew
import PyProof.SetRoads
import PyProof.Walks
import PyProof.Rows.SetListFold
import PyProof.Seq
import PyProof.Rows.SortShell
import PyProof.TupleIter
import PyProof.CollectWalk
import PyProof.ReprRoads
import PyProof.EqLayable
import PyProof.ReprLen
import PyProof.WalkInts
import PyProof.SeqI3
import PyProof.ListMulRoad
import PyProof.ZipIter
import PyProof.EnumFor
import PyProof.EnumMake
import PyProof.Draws
import PyProof.Rows.ZipGen
import PyProof.LayNew
import PyProof.WalksMore
import PyProof.IsiTupleAll
import PySem.Challenge.RW_boxcover_k06_whole_boxes_and_spots
section
set_option Elab.async false
set_option linter.all false
set_option maxRecDepth 100000
namespace L2
open PySem PySem.Spec PyProof.Rows

abbrev Key := Sum Int Str
def JB1:Key → Value → Bool
  | .inl k,v => Value.isInt k v
  | .inr x,v => Value.isStrOf x v
def keyH (w:World):Key → Int
  | .inl k => hashInt k
  | .inr x => hashStr w x
theorem Jde:∀ {k:Key} {v:Value},JB1 k v = true → (∃ i t,k = Sum.inl i ∧ v = Value.int i t) ∨ (∃ x t,k = Sum.inr x ∧ v = Value.str x t)
  | .inl i,v,h => by
    obtain ⟨t,e⟩ := Value.isInt_shape (k := i) (v := v) h
    exact .inl ⟨i,t,rfl,e⟩
  | .inr x,v,h => by
    obtain ⟨t,e⟩ := Value.isStrOf_shape (x := x) (v := v) h
    exact .inr ⟨x,t,rfl,e⟩
theorem JB0 (a b:Int):decide ((Sum.inl a:Key) = Sum.inl b) = (a == b) := by
  by_cases e:a = b
  · subst e; simp
  · have h:¬ (Sum.inl a:Key) = Sum.inl b := fun q => e (Sum.inl.inj q)
    rw [decide_eq_false h]
    exact (beq_eq_false_iff_ne.mpr e).symm
theorem JBx (a b:Str):decide ((Sum.inr a:Key) = Sum.inr b) = decide (a = b) := by
  by_cases e:a = b
  · subst e; simp
  · have h:¬ (Sum.inr a:Key) = Sum.inr b := fun q => e (Sum.inr.inj q)
    rw [decide_eq_false h,decide_eq_false e]
theorem JBz (a:Int) (b:Str):decide ((Sum.inl a:Key) = Sum.inr b) = false := decide_eq_false (fun q => nomatch q)
theorem JBy (a:Str) (b:Int):decide ((Sum.inr a:Key) = Sum.inl b) = false := decide_eq_false (fun q => nomatch q)

def Jpe (prog:Program) (w:World):PySem.KeyKind prog w Key where
  is := JB1
  hash := keyH w
  inj := fun v a b ha hb => by
    rcases Jde ha with ⟨i,t,rfl,rfl⟩ | ⟨x,t,rfl,rfl⟩
    · rcases Jde hb with ⟨j,u,rfl,e⟩ | ⟨y,u,rfl,e⟩
      · injection e with e1 _; rw [e1]
      · exact nomatch e
    · rcases Jde hb with ⟨j,u,rfl,e⟩ | ⟨y,u,rfl,e⟩
      · exact nomatch e
      · injection e with e1 _; rw [e1]
  byValue := fun k v h => by
    rcases Jde h with ⟨i,t,rfl,rfl⟩ | ⟨x,t,rfl,rfl⟩ <;> rfl
  pyHash := fun hv h => by
    rcases Jde hv with ⟨i,t,rfl,rfl⟩ | ⟨x,t,rfl,rfl⟩
    · exact wpAny_pyHash_int h
    · exact wpAny_pyHash_str h
  eqBool := fun hu hv h => by
    rcases Jde hu with ⟨i,t,rfl,rfl⟩ | ⟨x,t,rfl,rfl⟩
    · rcases Jde hv with ⟨j,u,rfl,rfl⟩ | ⟨y,u,rfl,rfl⟩
      · rw [JB0] at h; exact wpAny_eqBool_int h
      · rw [JBz] at h; exact SeqAt.EqAt.int_str i t y u _ _ _ _ h
    · rcases Jde hv with ⟨j,u,rfl,rfl⟩ | ⟨y,u,rfl,rfl⟩
      · rw [JBy] at h; exact SeqAt.EqAt.str_int x t j u _ _ _ _ h
      · rw [JBx] at h; exact wpAny_eqBool_str h
  «strs» := fun k x t v h => by
    rcases Jde h with ⟨i,u,rfl,e⟩ | ⟨y,u,rfl,e⟩
    · exact nomatch e
    · injection e with e1 _
      subst e1
      cases v <;> rfl

end L2

namespace L2
open PySem PySem.Spec PyProof.Rows


inductive V where
  | non | bl (b:Bool) | int (i:Int) | str (x:Str) | byt (b:Array UInt8) | flt (b:UInt64) | ref (a:Addr) | ty (n:String)
  deriving DecidableEq

def RelV:V → Value → Prop
  | .non,u => u = Value.none
  | .bl b,u => u = Value.bool b
  | .int i,u => ∃ t,u = Value.int i t
  | .str x,u => ∃ t,u = Value.str x t
  | .byt b,u => ∃ t,u = Value.bytes b t
  | .flt b,u => ∃ t,u = Value.float b t
  | .ref a,u => u = Value.ref a
  | .ty n,u => u = Value.type n

abbrev Vals:List V → List Value → Prop := Paired RelV
theorem Vals.length {xs:List V} {us:List Value} (r:Vals xs us):xs.length = us.length := Paired.length r
theorem Vals.get:∀ {xs:List V} {us:List Value} {i:Nat} {x:V},Vals xs us → xs[i]? = some x → ∃ u,us[i]? = some u ∧ RelV x u
  | _,_,_,_,.nil,e => by simp at e
  | _,_,0,_,.cons r _,e => by simp at e; subst e; exact ⟨_,rfl,r⟩
  | _,_,i + 1,x,.cons _ t,e => by
    obtain ⟨u,h1,h2⟩ := Vals.get (i := i) (x := x) t (by simpa using e)
    exact ⟨u,by simpa using h1,h2⟩
theorem Vals.set {x:V} {u:Value} (r:RelV x u):∀ {xs:List V} {us:List Value} (i:Nat),Vals xs us → Vals (xs.set i x) (us.set i u)
  | _,_,_,.nil => .nil
  | _,_,0,.cons _ t => .cons r t
  | _,_,i + 1,.cons q t => .cons q (Vals.set r i t)
theorem Vals.append:∀ {xs ys:List V} {us ws:List Value},Vals xs us → Vals ys ws → Vals (xs ++ ys) (us ++ ws)
  | _,_,_,_,.nil,s => s
  | _,_,_,_,.cons r t,s => .cons r (Vals.append t s)
theorem Vals.take:∀ {xs:List V} {us:List Value} (n:Nat),Vals xs us → Vals (xs.take n) (us.take n)
  | _,_,0,_ => .nil
  | _,_,_ + 1,.nil => .nil
  | _,_,n + 1,.cons r t => .cons r (Vals.take n t)
theorem Vals.drop:∀ {xs:List V} {us:List Value} (n:Nat),Vals xs us → Vals (xs.drop n) (us.drop n)
  | _,_,0,r => r
  | _,_,_ + 1,.nil => .nil
  | _,_,n + 1,.cons _ t => Vals.drop n t
def RelO:Option V → Option Value → Prop
  | some v,some u => RelV v u
  | none,none => True
  | _,_ => False
def KV {κ:Type}:List (κ × V) → List (κ × Value) → Prop := Paired fun (p:κ × V) (q:κ × Value) => p.1 = q.1 ∧ RelV p.2 q.2

def kV:Key → V
  | .inl i => .int i
  | .inr x => .str x


inductive HO where
  /-- a list -/
  | lst (xs:List V)
  /-- a tuple (never changes) -/
  | tup (xs:List V)
  /-- a dict whose keys are ints and texts; one whose keys are tuples of ints and texts (the empty one is both) -/
  | dK (kvs:List (Key × V)) | dT (kvs:List (List Key × V))
  /-- a set of ints: its members, its size -/
  | set (S:Int → Bool) (n:Nat)
  /-- an instance of the class at C, its dict at dx, its attributes -/
  | ins (C dx:Addr) (fs:List (Str × V))
  /-- the dict of the instance at x -/
  | own (x:Addr)
  /-- the dict of an exception -/
  | xd (fs:List (Str × V))
  /-- a bound method, f of x -/
  | met (f x:Addr)
  /-- a range object lo, lo + 1, .. below hi -/
  | rng (lo hi:Int)
  /-- a thing that is known to the object (the script; a dict while a loop walks it): read, never written while it is so -/
  | frz (o:Obj) (u:HO)
  /-- a code object's table -/
  | tbl (ps:Array Value)
  /-- any other thing, by what is true of its one object (a def of one's own: SetO a S n := HO.ext fun h => ..) -/
  | ext (φ:Heap → Prop)

abbrev Hp := Addr → Option HO
def upd (H:Hp) (a:Addr) (o:HO):Hp := fun b => if b = a then some o else H b
theorem Jbj {H:Hp} {a:Addr} {o:HO}:upd H a o a = some o := by unfold upd; rw [if_pos rfl]
theorem Jbg {H:Hp} {a b:Addr} {o:HO} (h:b ≠ a):upd H a o b = H b := by unfold upd; rw [if_neg h]
theorem Jb6 {H:Hp} {a b:Addr} {o:HO} (h:H a = some o) (h':H b = none):a ≠ b := by
  intro e; subst e; rw [h] at h'; cases h'

section
variable (P:Program) (w:World)
def Jek (H:Hp) (h:Heap) (a:Addr):HO → Prop
  | .lst xs => xs.length ≤ sizeLine ∧ ∃ (its:List Value) (n:Nat),Vals xs its ∧ h.get? a = some { cls := .type "list",data := .seq its.toArray n }
  | .tup xs => xs.length ≤ sizeLine ∧ ∃ its:List Value,Vals xs its ∧ IsTup h a its.toArray
  | .dK kvs => kvs.length ≤ sizeLine ∧ (a == sysModules) = false ∧ ∃ vs,KV kvs vs ∧ h.DictOf (Jpe P w) a vs
  | .dT kvs => kvs.length ≤ sizeLine ∧ (a == sysModules) = false ∧ ∃ xs:List (List Key × Addr × Value),
      Paired (fun (p:List Key × V) (q:List Key × Addr × Value) => p.1 = q.1 ∧ H q.2.1 = some (.tup (p.1.map kV)) ∧ RelV p.2 q.2.2) kvs xs ∧
      ∃ o es ep,h.get? a = some o ∧ o.ExactDict ∧ o.data = .dict es ep ∧ es.toList = xs.map (entryOfKey (tupleKind (Jpe P w))) ∧ (xs.map (·.1)).Nodup
  | .set S n => h.SetOf (intKind P w) a S n
  | .ins C dx fs => H dx = some (.own a) ∧ fs.length ≤ 1000 ∧ dx ≠ a ∧ h.get? a = some (PySem.W.instObj C dx) ∧
      ∃ mA,h.Ns1 dx mA ∧ (∀ f,RelO (fs.lookup f) (mA f)) ∧ PySem.Within mA (fs.map (·.1))
  | .own _ => ∃ o,h.get? a = some o
  | .xd fs => ∃ mA,h.Ns1 a mA ∧ ∀ f,RelO (fs.lookup f) (mA f)
  | .rng lo hi => ∃ t u v,h.get? a = some { cls := .type "range",data := .fields #[.int lo t,.int hi u,.int 1 v] }
  | .frz o u => h.get? a = some o ∧ Jek H h a u
  | .tbl ps => h.get? a = some { cls := .none,data := .fields ps }
  | .met f x => h.get? a = some (PySem.W.methodObj (.ref f) (.ref x))
  | .ext φ => φ h ∧ (∃ o,h.get? a = some o) ∧ ∀ h1 h2:Heap,φ h1 → (∀ o,h1.get? a = some o → h2.get? a = some o) → φ h2
def HOk (H:Hp) (h:Heap):Prop := ∀ a o,H a = some o → Jek P w H h a o
end

section
variable {P:Program} {w:World} {H H':Hp} {h h':Heap} {a:Addr} {o:HO}
theorem Jek.lt (x:Jek P w H h a o):a < h.objs.size := by
  cases o with
  | lst xs => obtain ⟨_,_,_,_,e⟩ := x; exact Heap.lt_size e
  | tup xs => obtain ⟨_,_,_,p⟩ := x; exact p.lt
  | dK kvs => obtain ⟨_,_,_,_,o,_,_,e,_⟩ := x; exact Heap.lt_size e
  | dT kvs => obtain ⟨_,_,_,_,o,_,_,e,_⟩ := x; exact Heap.lt_size e
  | set S n => obtain ⟨o,_,_,_,e,_⟩ := x; exact Heap.lt_size e
  | ins C dx fs => obtain ⟨_,_,_,e,_⟩ := x; exact Heap.lt_size e
  | own y => obtain ⟨_,e⟩ := x; exact Heap.lt_size e
  | xd fs => obtain ⟨_,⟨_,_,_,e,_⟩,_⟩ := x; exact Heap.lt_size e
  | rng lo hi => obtain ⟨_,_,_,e⟩ := x; exact Heap.lt_size e
  | frz ob u => obtain ⟨e,_⟩ := x; exact Heap.lt_size e
  | tbl ps => exact Heap.lt_size (show h.get? a = some _ from x)
  | met f y => exact Heap.lt_size (show h.get? a = some _ from x)
  | ext φ => obtain ⟨_,⟨_,e⟩,_⟩ := x; exact Heap.lt_size e
theorem Paired.mapP {α β:Type} {F G:α → β → Prop}:∀ {l₁:List α} {l₂:List β},Paired F l₁ l₂ → (∀ a b,F a b → G a b) → Paired G l₁ l₂
  | _,_,.nil,_ => .nil
  | _,_,.cons r t,f => .cons (f _ _ r) (Paired.mapP t f)
theorem Jek.stay (x:Jek P w H h a o) (k:∀ b u,(b = a ∨ H b = some (.own a)) → h.get? b = some u → h'.get? b = some u)
    (ho:∀ b,H b = some (.own a) → H' b = some (.own a)) (ht:∀ b xs,H b = some (.tup xs) → H' b = some (.tup xs)):Jek P w H' h' a o := by
  induction o with
  | lst xs => obtain ⟨z,its,n,r,e⟩ := x; exact ⟨z,its,n,r,k _ _ (.inl rfl) e⟩
  | tup xs => obtain ⟨z,its,r,ob,e,c⟩ := x; exact ⟨z,its,r,ob,k _ _ (.inl rfl) e,c⟩
  | dK kvs => obtain ⟨z,y,vs,r,ob,es,ep,e,c⟩ := x; exact ⟨z,y,vs,r,ob,es,ep,k _ _ (.inl rfl) e,c⟩
  | dT kvs =>
    obtain ⟨z,y,xs,r,ob,es,ep,e,c⟩ := x
    exact ⟨z,y,xs,Paired.mapP r fun p q z => ⟨z.1,ht _ _ z.2.1,z.2.2⟩,ob,es,ep,k _ _ (.inl rfl) e,c⟩
  | set S n => obtain ⟨ob,es,ep,t,e,c⟩ := x; exact ⟨ob,es,ep,t,k _ _ (.inl rfl) e,c⟩
  | ins C dx fs =>
    obtain ⟨d,z,ne,e,mA,⟨od,es,ep,e2,c⟩,r⟩ := x
    exact ⟨ho _ d,z,ne,k _ _ (.inl rfl) e,mA,⟨od,es,ep,k _ _ (.inr d) e2,c⟩,r⟩
  | own y => obtain ⟨ob,e⟩ := x; exact ⟨ob,k _ _ (.inl rfl) e⟩
  | xd fs => obtain ⟨mA,⟨od,es,ep,e,c⟩,r⟩ := x; exact ⟨mA,⟨od,es,ep,k _ _ (.inl rfl) e,c⟩,r⟩
  | rng lo hi => obtain ⟨t,u,v,e⟩ := x; exact ⟨t,u,v,k _ _ (.inl rfl) e⟩
  | frz ob u ih => obtain ⟨e,q⟩ := x; exact ⟨k _ _ (.inl rfl) e,ih q⟩
  | tbl ps =>
    have e:h.get? a = some { cls := .none,data := .fields ps } := x
    show h'.get? a = some { cls := .none,data := .fields ps }
    exact k a _ (.inl rfl) e
  | met f y =>
    have e:h.get? a = some (PySem.W.methodObj (.ref f) (.ref y)) := x
    show h'.get? a = some (PySem.W.methodObj (.ref f) (.ref y))
    exact k a _ (.inl rfl) e
  | ext φ => obtain ⟨p,⟨o,e⟩,st⟩ := x; exact ⟨st _ _ p fun o q => k _ _ (.inl rfl) q,⟨o,k _ _ (.inl rfl) e⟩,st⟩
theorem HOk.lt (x:HOk P w H h) (e:H a = some o):a < h.objs.size := (x a o e).lt
theorem HOk.fresh (x:HOk P w H h) (e:h.objs.size ≤ a):H a = none := by
  cases q:H a with
  | none => rfl
  | some u => exact absurd (Nat.lt_of_lt_of_le (x.lt q) e) (Nat.lt_irrefl _)
theorem HOk.kept (x:HOk P w H h) (k:∀ b u,h.get? b = some u → h'.get? b = some u):HOk P w H h' := fun a o e =>
  (x a o e).stay (fun b u _ q => k b u q) (fun _ q => q) fun _ _ q => q
theorem HOk.laid (x:HOk P w H h) (k:∀ b u,h.get? b = some u → h'.get? b = some u) (hp:h.objs.size ≤ a) (new:Jek P w (upd H a o) h' a o):HOk P w (upd H a o) h' := fun b u e => by
  have hn := x.fresh hp
  by_cases hb:b = a
  · subst hb; rw [Jbj] at e; cases e; exact new
  · rw [Jbg hb] at e
    exact (x b u e).stay (fun c v _ q => k c v q) (fun c q => by rw [Jbg (Jb6 q hn)]; exact q) fun c xs q => by rw [Jbg (Jb6 q hn)]; exact q
end

def Rd (H:Hp) (a:Addr) (u:HO):Prop := H a = some u ∨ ∃ o,H a = some (.frz o u)
theorem Rd.of {H:Hp} {a:Addr} {u:HO} (h:H a = some u):Rd H a u := .inl h
theorem Rd.ok {P:Program} {w:World} {H:Hp} {h:Heap} {a:Addr} {u:HO} (r:Rd H a u) (x:HOk P w H h):Jek P w H h a u := by
  rcases r with r | ⟨o,r⟩
  · exact x a u r
  · obtain ⟨_,q⟩ := x a _ r
    exact q
def Mut:Option HO → Prop
  | some (.lst _) => True
  | some (.dK _) => True
  | some (.dT _) => True
  | some (.set _ _) => True
  | some (.ins _ _ _) => True
  | some (.ext _) => True
  | _ => False
section
variable {P:Program} {w:World} {H:Hp} {h h':Heap} {x e:Addr} {o':HO}
theorem HOk.write (ok:HOk P w H h) (mu:Mut (H x)) (he:e = x ∨ H e = some (.own x)) (k:∀ b u,b ≠ e → h.get? b = some u → h'.get? b = some u) (heo:∃ u,h'.get? e = some u)
    (new:Jek P w (upd H x o') h' x o'):HOk P w (upd H x o') h' := fun b u q => by
  have nown:∀ c y,H c = some (.own y) → c ≠ x := fun c y r z => by subst z; rw [r] at mu; exact mu
  have ntup:∀ c xs,H c = some (.tup xs) → c ≠ x := fun c xs r z => by subst z; rw [r] at mu; exact mu
  by_cases hb:b = x
  · subst hb; rw [Jbj] at q; cases q; exact new
  · rw [Jbg hb] at q
    by_cases hbe:b = e
    · have q':H b = some (.own x) := by
        rcases he with z | z
        · exact absurd (hbe.trans z) hb
        · rw [hbe]; exact z
      rw [q] at q'; cases q'
      obtain ⟨v,hv⟩ := heo
      exact ⟨v,by rw [hbe]; exact hv⟩
    · refine (ok b u q).stay (fun c v hc r => k c v ?_ r) (fun c r => by rw [Jbg (nown c b r)]; exact r) fun c xs r => by rw [Jbg (ntup c xs r)]; exact r
      rcases hc with rfl | hc
      · exact hbe
      · rintro rfl
        rcases he with z | z
        · exact nown c b hc z
        · rw [hc] at z; cases z; exact hb rfl
end

structure Un (fs ex:List Addr) (H H':Hp) (h h':Heap):Prop where
  keep:∀ b o,h.get? b = some o → H b = none → b ∉ fs → b ∉ ex → h'.get? b = some o
  slot:∀ b o,h.get? b = some o → H b = none → b ∈ fs → b ∉ ex → ∃ sl,h'.get? b = some { o with slots := sl }
  free:∀ b o,h.get? b = some o → H b = none → b ∉ ex → H' b = none
  there:∀ b o,h.get? b = some o → b ∉ ex → ∃ o',h'.get? b = some o'
  tups:∀ b xs,H b = some (.tup xs) → H' b = some (.tup xs)
  frzs:∀ b o u,H b = some (.frz o u) → H' b = some (.frz o u)
  tbls:∀ b ps,H b = some (.tbl ps) → ∃ more,H' b = some (.tbl (ps ++ more))
  sy:H sysModules = none → H' sysModules = none
section
variable {fs fs' ex ex':List Addr} {H H1 H2:Hp} {h h1 h2 h':Heap} {a x e:Addr} {o:HO}
theorem Un.any (u:Un fs ex H H1 h h1) {b:Addr} {ob:Obj} (q:h.get? b = some ob) (n:H b = none) (hx:b ∉ ex):∃ sl,h1.get? b = some { ob with slots := sl } := by
  by_cases hb:b ∈ fs
  · exact u.slot b ob q n hb hx
  · exact ⟨ob.slots,u.keep b ob q n hb hx⟩
theorem Un.trans (a:Un fs ex H H1 h h1) (b:Un fs ex H1 H2 h1 h2):Un fs ex H H2 h h2 where
  keep := fun c ob q n hc hx => b.keep c ob (a.keep c ob q n hc hx) (a.free c ob q n hx) hc hx
  slot := fun c ob q n hc hx => by
    obtain ⟨sl,e1⟩ := a.slot c ob q n hc hx
    obtain ⟨sl',e2⟩ := b.slot c _ e1 (a.free c ob q n hx) hc hx
    exact ⟨sl',e2⟩
  free := fun c ob q n hx => by
    obtain ⟨o',e1⟩ := a.there c ob q hx
    exact b.free c o' e1 (a.free c ob q n hx) hx
  there := fun c ob q hx => by
    obtain ⟨o',e1⟩ := a.there c ob q hx
    exact b.there c o' e1 hx
  tups := fun c xs q => b.tups c xs (a.tups c xs q)
  frzs := fun c ob xs q => b.frzs c ob xs (a.frzs c ob xs q)
  tbls := fun c ps q => by
    obtain ⟨m1,e1⟩ := a.tbls c ps q
    obtain ⟨m2,e2⟩ := b.tbls c _ e1
    exact ⟨m1 ++ m2,by rw [e2,Array.append_assoc]⟩
  sy := fun n => b.sy (a.sy n)
theorem Un.kept (k:∀ b u,h.get? b = some u → h'.get? b = some u):Un fs ex H H h h' :=
  ⟨fun b ob q _ _ _ => k b ob q,fun b ob q _ _ _ => ⟨ob.slots,k b ob q⟩,fun _ _ _ n _ => n,fun b ob q _ => ⟨ob,k b ob q⟩,fun _ _ q => q,fun _ _ _ q => q,fun _ ps q => ⟨#[],by rw [q]; simp⟩,id⟩
theorem Un.refl:Un fs ex H H h h := Un.kept fun _ _ q => q
theorem Un.laid (k:∀ b u,h.get? b = some u → h'.get? b = some u) (hp:h.objs.size ≤ a) (hn:H a = none) (hsy:sysModules ≠ a):Un fs ex H (upd H a o) h h' where
  sy := fun n => by rw [Jbg hsy]; exact n
  keep := fun b u q _ _ _ => k b u q
  slot := fun b u q _ _ _ => ⟨u.slots,k b u q⟩
  free := fun b u q n _ => by rw [Jbg (Nat.ne_of_lt (Nat.lt_of_lt_of_le (Heap.lt_size q) hp))]; exact n
  there := fun b u q _ => ⟨u,k b u q⟩
  tups := fun b xs q => by rw [Jbg (Jb6 q hn)]; exact q
  frzs := fun b u xs q => by rw [Jbg (Jb6 q hn)]; exact q
  tbls := fun b ps q => ⟨#[],by rw [Jbg (Jb6 q hn),q]; simp⟩
theorem Un.write (mu:Mut (H x)) (he:e = x ∨ H e = some (.own x)) (k:∀ b u,b ≠ e → h.get? b = some u → h'.get? b = some u) (heo:∃ u,h'.get? e = some u):Un fs ex H (upd H x o) h h' := by
  have hx:∀ b,H b = none → b ≠ x := fun b n z => by subst z; rw [n] at mu; exact mu
  have hb:∀ b,H b = none → b ≠ e := fun b n z => by
    subst z
    rcases he with r | r
    · exact hx b n r
    · rw [n] at r; cases r
  have hm:∀ b u,H b = some u → ¬ Mut (some u) → b ≠ x := fun b u q nm z => by subst z; rw [q] at mu; exact nm mu
  refine ⟨fun b u q n _ _ => k b u (hb b n) q,fun b u q n _ _ => ⟨u.slots,k b u (hb b n) q⟩,fun b u q n _ => by rw [Jbg (hx b n)]; exact n,fun b u q _ => ?_,
    fun b xs q => by rw [Jbg (hm b _ q fun z => z)]; exact q,fun b u xs q => by rw [Jbg (hm b _ q fun z => z)]; exact q,fun b ps q => ⟨#[],by rw [Jbg (hm b _ q fun z => z),q]; simp⟩,fun n => by rw [Jbg (hx _ n)]; exact n⟩
  by_cases hbe:b = e
  · subst hbe; exact heo
  · exact ⟨u,k b u hbe q⟩
theorem Un.mono (u:Un fs ex H H1 h h1) (hs:∀ b ∈ fs,b ∈ fs') (hx:∀ b ∈ ex,b ∈ ex'):Un fs' ex' H H1 h h1 :=
  ⟨fun b ob q n hb he => u.keep b ob q n (fun z => hb (hs b z)) fun z => he (hx b z),fun _ _ q n _ he => u.any q n fun z => he (hx _ z),fun b ob q n he => u.free b ob q n fun z => he (hx b z),fun b ob q he => u.there b ob q fun z => he (hx b z),u.tups,u.frzs,u.tbls,u.sy⟩
end

def trk (h:Heap) (H:Hp):List Addr := (List.range h.objs.size).filter fun a => (H a).isSome
def hidT (h:Heap) (H:Hp):Heap := PySem.W.hideAll h (trk h H)
theorem Jtt (h:Heap) (H:Hp):(hidT h H).objs.size = h.objs.size := PySem.W.hideAll_size _ _
theorem Jwj {h:Heap} {H:Hp} {b:Addr} {o:Obj} (e:h.get? b = some o) (n:H b = none):(hidT h H).get? b = some o :=
  PySem.W.hideAll_get _ e fun hm => by
    have q:(H b).isSome = true := (List.mem_filter.mp hm).2
    rw [n] at q; simp at q
theorem Jy0 {h:Heap} {H:Hp} {b:Addr} {o:Obj} (e:(hidT h H).get? b = some o):h.get? b = some o ∧ H b = none := by
  have e':h.get? b = some o := PySem.W.of_hideAll (trk h H) e
  refine ⟨e',?_⟩
  cases q:H b with
  | none => rfl
  | some x =>
    have hm:b ∈ trk h H := List.mem_filter.mpr ⟨List.mem_range.mpr (Heap.lt_size e'),by simp [q]⟩
    have z:(hidT h H).get? b = none := PySem.W.hideAll_none (trk h H) hm
    rw [z] at e; cases e

def Jz7 (g h:Heap) (L:Addr):List (Addr × Obj) := (List.range h.objs.size).filterMap fun a => if a = L ∨ (g.get? a).isSome = true then none else (h.get? a).map fun o => (a,o)
def rest (g h:Heap) (L d:Addr):List (Addr × Obj) := (Jz7 g h L).filter fun p => decide (p.1 ≠ d)
end L2

namespace L2
open PySem PySem.Spec PyProof.Rows


structure Mod (K:PySem.W.Frag) (mg:Str → Option Value) (base:Heap):Prop where
  kin:K.In base
  glob:base.Ns mainGlobals mg
  blt:∃ mb,base.Ns builtinsNs mb ∧ ∀ x:Str,x ≠ "__name__" → mb x = bootBuiltins x
  nolimit:base.NoLimit

/-- the context: a def's body (or a comprehension's block) running. base: fixed through the whole law; s₀, H₀: the entry; outer: the frames whose slots others may change (a def's callers); stack: all frames that run;
   ex: iterators that were made ahead of the entry and are walked here (a comprehension's); fn: the names whose cells were made at the entry (a def: all; a comprehension's block: its own); calm: not within an except suite; pn: pins that every state bears; xe: what is wanted of an exception that leaves the code -/
structure Cx where
  prog:Program
  w:World
  K:PySem.W.Frag
  mg:Str → Option Value
  base:Heap
  A:Around
  N:List Str
  s₀:Shared
  H₀:Hp
  env:Env
  outer:List Env
  stack:List Env
  ex:List Addr
  fn:Str → Bool
  calm:Bool
  pn:List (Addr × Obj)
  xe:Value → Shared → Prop
def frs (l:List Env):List Addr := l.filterMap (·.frame)
abbrev Cx.fs (X:Cx):List Addr := frs X.outer

def Vis (sc:Scope) (x:Str):Prop := sc.names.lookup x = some .local ∨ sc.names.lookup x = some .cell ∨ sc.names.lookup x = some .free
def Loc (sc:Scope) (x:Str):Prop := sc.names.lookup x = some .local ∨ sc.names.lookup x = some .cell
def Look (env:Env) (h:Heap) (m:Str → Option Value) (x:Str) (u:Value):Prop :=
  (env.kindOf x = some .local ∧ m x = some u) ∨ ((env.kindOf x = some .cell ∨ env.kindOf x = some .free) ∧ ∃ c,env.cells.lookup x = some c ∧ h.IsCell c (some u))

structure Cx.Ok (X:Cx):Prop where
  mod:Mod X.K X.mg X.base
  kind:X.env.scope.kind = .function
  glob:X.env.globals = mainGlobals
  blt:X.env.builtins = builtinsNs
  above:X.s₀.heap.objs.size ≤ X.env.locals
  inj:∀ x y c,X.env.cells.lookup x = some c → X.env.cells.lookup y = some c → x = y
  has:∀ x,(X.env.kindOf x = some .cell ∨ X.env.kindOf x = some .free) → ∃ c,X.env.cells.lookup x = some c
  cab:∀ x c,X.fn x = true → X.env.cells.lookup x = some c → X.s₀.heap.objs.size ≤ c
  hd:X.calm = true → X.A.handled = none
  frames:X.A.frames = some X.stack
  stk:X.stack = X.outer ∨ (X.stack = X.env :: X.outer ∧ X.env.frame = some X.env.locals)
  exf:∀ b ∈ X.ex,b ≠ X.env.locals ∧ ∀ x c,X.env.cells.lookup x = some c → c ≠ b
  bs:∀ b o,X.base.get? b = some o → X.s₀.heap.get? b = some o ∧ X.H₀ b = none
  bsz:X.base.objs.size ≤ X.s₀.heap.objs.size
  noex:∀ b o,X.base.get? b = some o → b ∉ X.ex
  exfs:∀ b ∈ X.ex,b ∉ X.fs
  funs:X.s₀.heap.FunFrames X.base X.outer
  frf:∀ b ∈ X.fs,X.H₀ b = none
  sy:X.H₀ sysModules = none

structure Inv (X:Cx) (pins:List (Addr × Obj)) (σ:List (Option V)) (H:Hp) (s:Shared):Prop where
  ok:X.Ok
  os:s.os = X.s₀.os
  bare:AllBare s.gens
  base:Un X.fs X.ex X.H₀ H X.s₀.heap s.heap
  loc:∃ m,s.heap.Ns X.env.locals m ∧ ∀ (i:Nat) (x:Str) (v:V),X.N[i]? = some x → σ[i]? = some (some v) → Vis X.env.scope x → ∃ u,RelV v u ∧ Look X.env s.heap m x u
  cell:∀ x c,X.env.cells.lookup x = some c → ∃ v,s.heap.IsCell c v
  free:H X.env.locals = none
  freeC:∀ x c,X.env.cells.lookup x = some c → H c = none
  pin:∀ p ∈ X.pn ++ pins,s.heap.get? p.1 = some p.2 ∧ H p.1 = none ∧ p.1 ≠ X.env.locals ∧ p.1 ∉ X.fs ∧ ∀ v,p.2.data ≠ .cell v
  hok:HOk X.prog X.w H s.heap
  len:σ.length = X.N.length

section
variable {X:Cx} {pins:List (Addr × Obj)} {σ:List (Option V)} {H H':Hp} {s:Shared} {h':Heap}

theorem Cx.Ok.nofr (ok:X.Ok) {b:Addr} {o:Obj} (e:X.base.get? b = some o):b ∉ X.fs := fun hb => by
  have := (ok.funs.mem hb).1
  rw [e] at this; cases this
theorem Inv.bs (I:Inv X pins σ H s):∀ b o,X.base.get? b = some o → s.heap.get? b = some o ∧ H b = none := fun b o e =>
  ⟨I.base.keep b o (I.ok.bs b o e).1 (I.ok.bs b o e).2 (I.ok.nofr e) (I.ok.noex b o e),I.base.free b o (I.ok.bs b o e).1 (I.ok.bs b o e).2 (I.ok.noex b o e)⟩
theorem Inv.bk (I:Inv X pins σ H s):∀ b o,X.base.get? b = some o → s.heap.get? b = some o := fun b o e => (I.bs b o e).1
theorem Inv.mod (I:Inv X pins σ H s):Mod X.K X.mg X.base := I.ok.mod
theorem Inv.kIn (I:Inv X pins σ H s):X.K.In s.heap := I.ok.mod.kin.keeps I.bk
theorem Inv.nolimit (I:Inv X pins σ H s):s.heap.NoLimit := I.ok.mod.nolimit.keeps I.bk
theorem Inv.fr (I:Inv X pins σ H s):∃ m,Fr X.base X.env.locals s.heap m :=
  let ⟨m,hn,_⟩ := I.loc
  ⟨m,hn,I.bk,Nat.le_trans I.ok.bsz I.ok.above⟩
theorem Inv.lt (I:Inv X pins σ H s):X.env.locals < s.heap.objs.size := let ⟨_,hn,_⟩ := I.loc; hn.lt
theorem Inv.sz (I:Inv X pins σ H s):X.s₀.heap.objs.size ≤ s.heap.objs.size := Nat.le_trans I.ok.above (Nat.le_of_lt I.lt)
theorem Inv.nofs (I:Inv X pins σ H s) {a:Addr} (h:s.heap.objs.size ≤ a):a ∉ X.fs := fun hb => by
  obtain ⟨_,o,ho,_⟩ := I.ok.funs.mem hb
  exact absurd (Nat.lt_of_lt_of_le (Heap.lt_size ho) (Nat.le_trans I.sz h)) (Nat.lt_irrefl _)
theorem Inv.cne (I:Inv X pins σ H s):∀ x c,X.env.cells.lookup x = some c → c ≠ X.env.locals := fun x c e z => by
  obtain ⟨v,o,ho,hd⟩ := I.cell x c e
  obtain ⟨m,⟨o',es,ep,ho',hd',_⟩,_⟩ := I.loc
  rw [z,ho'] at ho; cases ho; rw [hd'] at hd; cases hd
theorem Inv.funs (I:Inv X pins σ H s):s.heap.FunFrames X.base X.outer := by
  have all:∀ (l:List Env),(∀ b ∈ frs l,b ∈ X.fs) → X.s₀.heap.FunFrames X.base l → s.heap.FunFrames X.base l := by
    intro l
    induction l with
    | nil => intro _ _; trivial
    | cons env r ih =>
      intro hs hl
      obtain ⟨hk,⟨L,o,hf,hn,ho,hd⟩,hr⟩ := hl
      have hL:L ∈ X.fs := hs L (by unfold frs; rw [List.filterMap_cons,hf]; exact List.mem_cons_self)
      obtain ⟨sl,e⟩ := I.base.slot L o ho (I.ok.frf L hL) hL fun z => I.ok.exfs L z hL
      exact ⟨hk,⟨L,_,hf,hn,e,hd⟩,ih (fun b hb => hs b (by unfold frs; rw [List.filterMap_cons,hf]; exact List.mem_cons_of_mem _ hb)) hr⟩
  exact all X.outer (fun _ hb => hb) I.ok.funs

theorem Inv.stack (I:Inv X pins σ H s):s.heap.FunFrames X.base X.stack := by
  rcases I.ok.stk with e | ⟨e,hf⟩
  · rw [e]; exact I.funs
  · rw [e]
    obtain ⟨m,hn,_⟩ := I.loc
    refine .cons (by rw [I.ok.kind]; decide) hf hn ?_ I.funs
    exact Heap.get?_none_of_le (Nat.le_trans I.ok.bsz I.ok.above)
theorem Inv.Jm2 (I:Inv X pins σ H s):∀ b ∈ frs X.stack,b ∈ X.env.locals :: X.fs := fun b hb => by
  rcases I.ok.stk with e | ⟨e,hf⟩
  · rw [e] at hb; exact List.mem_cons_of_mem _ hb
  · rw [e] at hb
    unfold frs at hb
    rw [List.filterMap_cons,hf] at hb
    exact hb
theorem Inv.Jr8 (I:Inv X pins σ H s):∀ b ∈ frs X.stack,H b = none := fun b hb => by
  rcases List.mem_cons.mp (I.Jm2 b hb) with e | hb
  · rw [e]; exact I.free
  · obtain ⟨_,o,ho,_⟩ := I.ok.funs.mem hb
    exact I.base.free b o ho (I.ok.frf b hb) fun z => I.ok.exfs b z hb

theorem Inv.bigS (I:Inv X pins σ H s):sysModules < s.heap.objs.size := by
  obtain ⟨o,_,_,e,_⟩ := I.ok.mod.glob
  exact Nat.lt_trans (by decide:(1:Nat) < 3) (Heap.lt_size (I.bk _ _ e))
theorem Inv.sysN (I:Inv X pins σ H s):H sysModules = none := I.base.sy I.ok.sy
theorem Inv.step {g':Array GenState} {t':Nat} {d':Drawn} {ch:List Addr} (I:Inv X pins σ H s)
    (hch:∀ b ∈ ch,(b ∈ X.ex ∨ X.s₀.heap.objs.size ≤ b) ∧ b ≠ X.env.locals ∧ (∀ x c,X.env.cells.lookup x = some c → c ≠ b) ∧ ∀ p ∈ X.pn ++ pins,p.1 ≠ b)
    (keep:∀ b o,b ≠ X.env.locals → b ∉ X.fs → b ∉ ch → s.heap.get? b = some o → H b = none → h'.get? b = some o)
    (slot:∀ b o,b ≠ X.env.locals → b ∈ X.fs → b ∉ ch → s.heap.get? b = some o → H b = none → ∃ sl,h'.get? b = some { o with slots := sl }) (free:∀ b o,b ∉ ch → s.heap.get? b = some o → H b = none → H' b = none)
    (there:∀ b o,b ∉ ch → s.heap.get? b = some o → ∃ o',h'.get? b = some o')
    (tups:∀ b xs,H b = some (.tup xs) → H' b = some (.tup xs)) (frzs:∀ b o u,H b = some (.frz o u) → H' b = some (.frz o u)) (tbls:∀ b ps,H b = some (.tbl ps) → ∃ more,H' b = some (.tbl (ps ++ more)))
    (ns:∀ m,s.heap.Ns X.env.locals m → h'.Ns X.env.locals m) (hok:HOk X.prog X.w H' h') (hg:AllBare g') (sy:H sysModules = none → H' sysModules = none) :
    Inv X pins σ H' { s with heap := h',gens := g',drawn := d',toks := t' } := by
  have neL:∀ b o,X.s₀.heap.get? b = some o → b ≠ X.env.locals := fun b o e => Nat.ne_of_lt (Nat.lt_of_lt_of_le (Heap.lt_size e) I.ok.above)
  have neC:∀ b o,X.s₀.heap.get? b = some o → b ∉ X.ex → b ∉ ch := fun b o e hx hb => by
    rcases (hch b hb).1 with z | z
    · exact hx z
    · exact absurd (Nat.lt_of_lt_of_le (Heap.lt_size e) z) (Nat.lt_irrefl _)
  have cellK:∀ x c,X.env.cells.lookup x = some c → ∀ v,s.heap.IsCell c v → h'.IsCell c v := fun x c e v ⟨o,ho,hd⟩ => by
    have nch:c ∉ ch := fun z => (hch c z).2.2.1 x c e rfl
    by_cases hc:c ∈ X.fs
    · obtain ⟨sl,q⟩ := slot c o (I.cne x c e) hc nch ho (I.freeC x c e)
      exact ⟨_,q,hd⟩
    · exact ⟨o,keep c o (I.cne x c e) hc nch ho (I.freeC x c e),hd⟩
  refine ⟨I.ok,I.os,hg,⟨fun b o e n hb hx => ?_,fun b o e n hb hx => ?_,fun b o e n hx => ?_,fun b o e hx => ?_,fun b xs e => tups b xs (I.base.tups b xs e),fun b o xs e => frzs b o xs (I.base.frzs b o xs e),fun b ps e => ?_,fun n => sy (I.base.sy n)⟩,?_,fun x c e => ?_,?_,fun x c e => ?_,fun p hp => ?_,hok,I.len⟩
  · exact keep b o (neL b o e) hb (neC b o e hx) (I.base.keep b o e n hb hx) (I.base.free b o e n hx)
  · obtain ⟨sl,e1⟩ := I.base.slot b o e n hb hx
    obtain ⟨sl',e2⟩ := slot b _ (neL b o e) hb (neC b o e hx) e1 (I.base.free b o e n hx)
    exact ⟨sl',e2⟩
  · obtain ⟨o',e1⟩ := I.base.there b o e hx
    exact free b o' (neC b o e hx) e1 (I.base.free b o e n hx)
  · obtain ⟨o',e1⟩ := I.base.there b o e hx
    exact there b o' (neC b o e hx) e1
  · obtain ⟨m1,e1⟩ := I.base.tbls b ps e
    obtain ⟨m2,e2⟩ := tbls b _ e1
    exact ⟨m1 ++ m2,by rw [e2,Array.append_assoc]⟩
  · obtain ⟨m,hn,hl⟩ := I.loc
    refine ⟨m,ns m hn,fun i x v e1 e2 e3 => ?_⟩
    obtain ⟨u,r,l⟩ := hl i x v e1 e2 e3
    refine ⟨u,r,?_⟩
    rcases l with l | ⟨k,c,e,z⟩
    · exact .inl l
    · exact .inr ⟨k,c,e,cellK x c e _ z⟩
  · obtain ⟨v,z⟩ := I.cell x c e
    exact ⟨v,cellK x c e v z⟩
  · obtain ⟨m,⟨o,_,_,ho,_⟩,_⟩ := I.loc
    exact free _ o (fun z => (hch _ z).2.1 rfl) ho I.free
  · obtain ⟨v,o,ho,hd⟩ := I.cell x c e
    exact free c o (fun z => (hch c z).2.2.1 x c e rfl) ho (I.freeC x c e)
  · obtain ⟨e,n,ne,nf,d⟩ := I.pin p hp
    have nch:p.1 ∉ ch := fun z => (hch p.1 z).2.2.2 p hp rfl
    exact ⟨keep p.1 p.2 ne nf nch e n,free p.1 p.2 nch e n,ne,nf,d⟩
theorem Inv.un {t':Nat} (I:Inv X pins σ H s) (u:Un X.fs [] H H' s.heap h') (hok:HOk X.prog X.w H' h'):Inv X pins σ H' { s with heap := h',toks := t' } := by
  obtain ⟨m,⟨o,es,ep,ho,r⟩,_⟩ := id I.loc
  obtain ⟨sl,hL⟩ := u.any ho I.free (by simp)
  exact I.step (g' := s.gens) (d' := s.drawn) (ch := []) (fun _ z => nomatch z) (fun b o _ hb _ e n => u.keep b o e n hb (by simp)) (fun b o _ hb _ e n => u.slot b o e n hb (by simp)) (fun b o _ e n => u.free b o e n (by simp)) (fun b o _ e => u.there b o e (by simp)) u.tups u.frzs u.tbls (fun m' hm => by
    obtain ⟨o',es',ep',ho',r'⟩ := hm
    rw [ho] at ho'; cases ho'
    exact ⟨_,es',ep',hL,r'⟩) hok I.bare u.sy
theorem Inv.call {g':Array GenState} {t':Nat} {d':Drawn} {ch:List Addr} (I:Inv X pins σ H s) (u:Un (frs X.stack) ch H H' s.heap h') (hok:HOk X.prog X.w H' h') (hg:AllBare g')
    (hch:∀ b ∈ ch,(b ∈ X.ex ∨ X.s₀.heap.objs.size ≤ b) ∧ b ≠ X.env.locals ∧ (∀ x c,X.env.cells.lookup x = some c → c ≠ b) ∧ ∀ p ∈ X.pn ++ pins,p.1 ≠ b) :
    Inv X pins σ H' { s with heap := h',gens := g',drawn := d',toks := t' } := by
  obtain ⟨m,⟨o,es,ep,ho,r⟩,_⟩ := id I.loc
  obtain ⟨sl,hL⟩ := u.any ho I.free fun z => (hch _ z).2.1 rfl
  exact I.step (ch := ch) hch (fun b o hL hb hc e n => u.keep b o e n (fun z => (List.mem_cons.mp (I.Jm2 b z)).elim hL hb) hc) (fun b o _ _ hc e n => u.any e n hc) (fun b o hc e n => u.free b o e n hc) (fun b o hc e => u.there b o e hc) u.tups u.frzs u.tbls (fun m' hm => by
    obtain ⟨o',es',ep',ho',r'⟩ := hm
    rw [ho] at ho'; cases ho'
    exact ⟨_,es',ep',hL,r'⟩) hok hg u.sy
theorem Inv.turned {t':Nat} {it:Addr} (I:Inv X pins σ H s) (k:∀ b o,b ≠ it → s.heap.get? b = some o → h'.get? b = some o) (hn:H it = none) (hL:it ≠ X.env.locals)
    (h1:it ∈ X.ex ∨ X.s₀.heap.objs.size ≤ it) (h2:∀ x c,X.env.cells.lookup x = some c → c ≠ it) (h3:∀ p ∈ X.pn ++ pins,p.1 ≠ it):Inv X pins σ H { s with heap := h',toks := t' } := by
  have nit:∀ b u,H b = some u → b ≠ it := fun b u e z => by rw [z,hn] at e; cases e
  refine I.step (g' := s.gens) (d' := s.drawn) (ch := [it]) (fun b hb => ?_) (fun b o _ _ hc e _ => k b o (fun z => hc (by simp [z])) e) (fun b o _ _ hc e _ => ⟨o.slots,k b o (fun z => hc (by simp [z])) e⟩) (fun _ _ _ _ n => n)
    (fun b o hc e => ⟨o,k b o (fun z => hc (by simp [z])) e⟩) (fun _ _ e => e) (fun _ _ _ e => e) (fun b ps e => ⟨#[],by rw [e]; simp⟩) (fun m hm => ?_) (fun b u e => ?_) I.bare id
  · have e:b = it := by simpa using hb
    subst e
    exact ⟨h1,hL,h2,h3⟩
  · obtain ⟨o,es,ep,ho,r⟩ := hm
    exact ⟨o,es,ep,k _ o (Ne.symm hL) ho,r⟩
  · refine (I.hok b u e).stay (fun c v hc q => k c v ?_ q) (fun _ q => q) fun _ _ q => q
    rcases hc with z | z
    · rw [z]; exact nit b u e
    · exact nit c _ z
theorem Inv.tok (I:Inv X pins σ H s) (t:Nat):Inv X pins σ H { s with toks := t } := I.un (h' := s.heap) (t' := t) Un.refl I.hok
theorem Inv.kept {t':Nat} (I:Inv X pins σ H s) (k:∀ b u,s.heap.get? b = some u → h'.get? b = some u):Inv X pins σ H { s with heap := h',toks := t' } := I.un (Un.kept k) (I.hok.kept k)
theorem Inv.laid {a:Addr} {o:HO} {t':Nat} (I:Inv X pins σ H s) (k:∀ b u,s.heap.get? b = some u → h'.get? b = some u) (hp:s.heap.objs.size ≤ a) (new:Jek X.prog X.w (upd H a o) h' a o) :
    Inv X pins σ (upd H a o) { s with heap := h',toks := t' } := I.un (Un.laid k hp (I.hok.fresh hp) (Nat.ne_of_lt (Nat.lt_of_lt_of_le I.bigS hp))) (I.hok.laid k hp new)
theorem Inv.write {x e:Addr} {o:HO} {t':Nat} (I:Inv X pins σ H s) (mu:Mut (H x)) (he:e = x ∨ H e = some (.own x)) (k:∀ b u,b ≠ e → s.heap.get? b = some u → h'.get? b = some u) (heo:∃ u,h'.get? e = some u)
    (new:Jek X.prog X.w (upd H x o) h' x o):Inv X pins σ (upd H x o) { s with heap := h',toks := t' } := I.un (Un.write mu he k heo) (I.hok.write mu he k heo new)
theorem Inv.weak {σ':List (Option V)} (I:Inv X pins σ H s) (hl:σ'.length = σ.length) (w:∀ (i:Nat) v,σ'[i]? = some (some v) → σ[i]? = some (some v)):Inv X pins σ' H s :=
  ⟨I.ok,I.os,I.bare,I.base,let ⟨m,hn,hl'⟩ := I.loc; ⟨m,hn,fun i x v e1 e2 e3 => hl' i x v e1 (w i v e2) e3⟩,I.cell,I.free,I.freeC,I.pin,I.hok,hl.trans I.len⟩
theorem Inv.Jl4 {pins':List (Addr × Obj)} (I:Inv X pins σ H s) (h:∀ p ∈ pins',s.heap.get? p.1 = some p.2 ∧ H p.1 = none ∧ p.1 ≠ X.env.locals ∧ p.1 ∉ X.fs ∧ ∀ v,p.2.data ≠ .cell v):Inv X pins' σ H s :=
  ⟨I.ok,I.os,I.bare,I.base,I.loc,I.cell,I.free,I.freeC,fun p hp => (List.mem_append.mp hp).elim (fun z => I.pin p (List.mem_append_left _ z)) (h p),I.hok,I.len⟩

theorem Jqn {N:List Str} (hN:N.Nodup) {i j:Nat} {x:Str} (a:N[i]? = some x) (b:N[j]? = some x):i = j := by
  obtain ⟨h1,e1⟩ := List.getElem?_eq_some_iff.mp a
  obtain ⟨h2,e2⟩ := List.getElem?_eq_some_iff.mp b
  exact (List.getElem_inj hN).mp (e1.trans e2.symm)

theorem Jm1 {M:Model} {A:Around} {E:Value → Shared → Prop} {i:Nat} {x:Str} {v:V} {u:Value} {Q:Unit → Shared → Prop} (I:Inv X pins σ H s) (hN:X.N.Nodup) (hi:X.N[i]? = some x) (hx:Loc X.env.scope x) (r:RelV v u)
    (h:∀ s',Inv X pins (σ.set i (some v)) H s' → (∃ a,Heap.SameBut a s.heap s'.heap ∧ (a = X.env.locals ∨ X.env.cells.lookup x = some a)) → Q () s') (hf:X.fn x = true ∨ X.env.scope.names.lookup x = some .local := by first | exact .inl rfl | exact .inr rfl | assumption):wpAny M A (storeName X.env x u) Q E s := by
  obtain ⟨m,hn,hl⟩ := id I.loc
  have hcls:(X.env.scope.kind == .class || (X.env.scope.kind == .module && X.env.locals != X.env.globals)) = false := by rw [I.ok.kind]; rfl
  have hiσ:i < σ.length := by rw [I.len]; exact (List.getElem?_eq_some_iff.mp hi).1
  have cne := I.cne
  have tracked:∀ {a:Addr} {h':Heap},(∃ o,s.heap.get? a = some o ∧ H a = none) → Heap.SameBut a s.heap h' → HOk X.prog X.w H h' := fun {a h'} ha hs b ob e => by
    obtain ⟨_,_,hfree⟩ := ha
    refine (I.hok b ob e).stay (fun c w' hc q => (hs.2 c ?_).trans q) (fun _ q => q) fun _ _ q => q
    rintro rfl
    rcases hc with rfl | hc
    · rw [hfree] at e; cases e
    · rw [hfree] at hc; cases hc
  rcases hx with hk | hk
  · refine wpAny_storeName_local hk hn (fun h' hn' hs => ?_) hcls
    obtain ⟨oL,_,_,hoL,_⟩ := id hn
    refine h _ ⟨I.ok,I.os,I.bare,⟨fun b o e n hb hx => ?_,fun b o e n hb hx => ?_,I.base.free,fun b o e hx => ?_,I.base.tups,I.base.frzs,I.base.tbls,I.base.sy⟩,⟨_,hn',fun j y v' e1 e2 e3 => ?_⟩,fun y c e => ?_,I.free,I.freeC,fun p hp => ?_,tracked ⟨oL,hoL,I.free⟩ hs,by simpa using I.len⟩ ⟨_,hs,.inl rfl⟩
    · exact (hs.2 b (Nat.ne_of_lt (Nat.lt_of_lt_of_le (Heap.lt_size e) I.ok.above))).trans (I.base.keep b o e n hb hx)
    · obtain ⟨sl,e1⟩ := I.base.slot b o e n hb hx
      exact ⟨sl,(hs.2 b (Nat.ne_of_lt (Nat.lt_of_lt_of_le (Heap.lt_size e) I.ok.above))).trans e1⟩
    · obtain ⟨o',e1⟩ := I.base.there b o e hx
      exact ⟨o',(hs.2 b (Nat.ne_of_lt (Nat.lt_of_lt_of_le (Heap.lt_size e) I.ok.above))).trans e1⟩
    · by_cases hj:j = i
      · subst hj
        rw [hi] at e1; cases e1
        rw [List.getElem?_set_self hiσ] at e2
        cases e2
        exact ⟨u,r,.inl ⟨hk,by simp⟩⟩
      · rw [List.getElem?_set_ne (Ne.symm hj)] at e2
        obtain ⟨u',r',q⟩ := hl j y v' e1 e2 e3
        refine ⟨u',r',?_⟩
        rcases q with ⟨k,e⟩ | ⟨k,c,e,z⟩
        · refine .inl ⟨k,?_⟩
          have:y ≠ x := fun e => hj (Jqn hN e1 (e ▸ hi))
          simp [this,e]
        · exact .inr ⟨k,c,e,z.sameBut hs (cne y c e)⟩
    · obtain ⟨w',z⟩ := I.cell y c e
      exact ⟨w',z.sameBut hs (cne y c e)⟩
    · obtain ⟨e,n,ne,nf,d⟩ := I.pin p hp
      exact ⟨(hs.2 p.1 ne).trans e,n,ne,nf,d⟩
  · have hfn:X.fn x = true := by
      rcases hf with z | z
      · exact z
      · rw [z] at hk; cases hk
    obtain ⟨c,hc⟩ := I.ok.has x (.inl hk)
    obtain ⟨w',z⟩ := I.cell x c hc
    refine wpAny_storeName_cell I.ok.kind hk hc z (fun h' hc' hs => ?_)
    obtain ⟨oc,hoc,hocd⟩ := id z
    refine h { s with heap := h' } ⟨I.ok,I.os,I.bare,⟨fun b o e n hb hx => ?_,fun b o e n hb hx => ?_,I.base.free,fun b o e hx => ?_,I.base.tups,I.base.frzs,I.base.tbls,I.base.sy⟩,⟨m,hn.sameBut hs (Ne.symm (cne x c hc)),fun j y v' e1 e2 e3 => ?_⟩,fun y c' e => ?_,I.free,I.freeC,fun p hp => ?_,tracked ⟨oc,hoc,I.freeC x c hc⟩ hs,by simpa using I.len⟩ ⟨c,hs,.inr hc⟩
    · exact (hs.2 b (Nat.ne_of_lt (Nat.lt_of_lt_of_le (Heap.lt_size e) (I.ok.cab x c hfn hc)))).trans (I.base.keep b o e n hb hx)
    · obtain ⟨sl,e1⟩ := I.base.slot b o e n hb hx
      exact ⟨sl,(hs.2 b (Nat.ne_of_lt (Nat.lt_of_lt_of_le (Heap.lt_size e) (I.ok.cab x c hfn hc)))).trans e1⟩
    · obtain ⟨o',e1⟩ := I.base.there b o e hx
      exact ⟨o',(hs.2 b (Nat.ne_of_lt (Nat.lt_of_lt_of_le (Heap.lt_size e) (I.ok.cab x c hfn hc)))).trans e1⟩
    · by_cases hj:j = i
      · subst hj
        rw [hi] at e1; cases e1
        rw [List.getElem?_set_self hiσ] at e2
        cases e2
        exact ⟨u,r,.inr ⟨.inl hk,c,hc,hc'⟩⟩
      · rw [List.getElem?_set_ne (Ne.symm hj)] at e2
        obtain ⟨u',r',q⟩ := hl j y v' e1 e2 e3
        refine ⟨u',r',?_⟩
        rcases q with q | ⟨k,c',e,z'⟩
        · exact .inl q
        · refine .inr ⟨k,c',e,z'.sameBut hs ?_⟩
          rintro rfl
          exact hj (Jqn hN e1 (I.ok.inj _ _ _ e hc ▸ hi))
    · by_cases hcc:c' = c
      · subst hcc; exact ⟨_,hc'⟩
      · obtain ⟨w2,z2⟩ := I.cell y c' e
        exact ⟨w2,z2.sameBut hs hcc⟩
    · obtain ⟨e,n,ne,nf,d⟩ := I.pin p hp
      refine ⟨(hs.2 p.1 ?_).trans e,n,ne,nf,d⟩
      intro q
      rw [q,hoc] at e
      have q':oc = p.2 := Option.some.inj e
      exact d w' (by rw [← q']; exact hocd)
theorem Jp3 {M:Model} {A:Around} {E:Value → Shared → Prop} {i:Nat} {x:Str} {v:V} {u:Value} {Q:Unit → Shared → Prop} (I:Inv X pins σ H s) (hN:X.N.Nodup) (hi:X.N[i]? = some x) (hx:Loc X.env.scope x) (r:RelV v u)
    (h:∀ s',Inv X pins (σ.set i (some v)) H s' → Q () s') (hf:X.fn x = true ∨ X.env.scope.names.lookup x = some .local := by first | exact .inl rfl | exact .inr rfl | assumption):wpAny M A (storeName X.env x u) Q E s :=
  Jm1 I hN hi hx r (fun s' I' _ => h s' I') hf
theorem Inv.call' {s':Shared} {ch:List Addr} (I:Inv X pins σ H s) (ho:s'.os = s.os) (u:Un (frs X.stack) ch H H' s.heap s'.heap) (hok:HOk X.prog X.w H' s'.heap) (hg:AllBare s'.gens)
    (hch:∀ b ∈ ch,(b ∈ X.ex ∨ X.s₀.heap.objs.size ≤ b) ∧ b ≠ X.env.locals ∧ (∀ x c,X.env.cells.lookup x = some c → c ≠ b) ∧ ∀ p ∈ X.pn ++ pins,p.1 ≠ b):Inv X pins σ H' s' := by
  obtain ⟨h',g',d',t',o'⟩ := s'
  have e:o' = s.os := ho
  subst e
  exact I.call (g' := g') (t' := t') (d' := d') u hok hg hch
end

abbrev XK := Value → Option Addr → Hp → Prop
abbrev St := List (Option V)
abbrev VK := V → Hp → Prop
abbrev TE := St → Hp → VK → Prop
abbrev TT := St → Hp → (Bool → Hp → Prop) → Prop
abbrev TA := St → Hp → (List V → Hp → Prop) → Prop

structure Ends where
  nx:St → Hp → Prop
  rt:VK
  bk:St → Hp → Prop := fun _ _ => False
  ct:St → Hp → Prop := fun _ _ => False
abbrev TS := Ends → St → Hp → Prop

def EP (X:Cx) (pins:List (Addr × Obj)) (σ:St) (Q:VK) (u:Value) (s':Shared):Prop := ∃ v H',Inv X pins σ H' s' ∧ RelV v u ∧ Q v H'
def TP (X:Cx) (pins:List (Addr × Obj)) (σ:St) (Q:Bool → Hp → Prop) (b:Bool) (s':Shared):Prop := ∃ H',Inv X pins σ H' s' ∧ Q b H'
def AP (X:Cx) (pins:List (Addr × Obj)) (σ:St) (Q:List V → Hp → Prop) (us:List Value) (s':Shared):Prop := ∃ vs H',Inv X pins σ H' s' ∧ Vals vs us ∧ Q vs H'
def SP (X:Cx) (pins:List (Addr × Obj)) (D:Ends) (f:Flow) (s':Shared):Prop :=
  match f with
  | .next => ∃ σ' H',Inv X pins σ' H' s' ∧ D.nx σ' H'
  | .brk => ∃ σ' H',Inv X pins σ' H' s' ∧ D.bk σ' H'
  | .cont => ∃ σ' H',Inv X pins σ' H' s' ∧ D.ct σ' H'
  | .ret u => ∃ v σ' H',Inv X pins σ' H' s' ∧ RelV v u ∧ D.rt v H'

def PE (X:Cx) (e:Expr) (t:TE):Prop :=
  ∀ (pins:List (Addr × Obj)) (s:Shared) (σ:St) (H:Hp) (Q:VK),Inv X pins σ H s → t σ H Q → wpAny (model X.prog X.w) X.A (eval e X.env) (EP X pins σ Q) X.xe s
def PT (X:Cx) (e:Expr) (t:TT):Prop :=
  ∀ (pins:List (Addr × Obj)) (s:Shared) (σ:St) (H:Hp) (Q:Bool → Hp → Prop),Inv X pins σ H s → t σ H Q → wpAny (model X.prog X.w) X.A (isTrue e X.env (eval e X.env)) (TP X pins σ Q) X.xe s
def PW (X:Cx) (e:Expr) (t:TT):Prop :=
  ∀ (whole:Sem Value) (pins:List (Addr × Obj)) (s:Shared) (σ:St) (H:Hp) (Q:Bool → Hp → Prop),Inv X pins σ H s → t σ H Q → wpAny (model X.prog X.w) X.A (isTrue e X.env whole) (TP X pins σ Q) X.xe s
theorem PW.pt {X:Cx} {e:Expr} {t:TT} (h:PW X e t):PT X e t := h _
def PA (X:Cx) (es:List Expr) (t:TA):Prop :=
  ∀ (pos:Pos) (pins:List (Addr × Obj)) (s:Shared) (σ:St) (H:Hp) (Q:List V → Hp → Prop),Inv X pins σ H s → t σ H Q → wpAny (model X.prog X.w) X.A (spliced (backTo pos (starEach es X.env))) (AP X pins σ Q) X.xe s
def PS (X:Cx) (st:Stmt) (t:TS):Prop :=
  ∀ (pins:List (Addr × Obj)) (s:Shared) (σ:St) (H:Hp) (D:Ends),Inv X pins σ H s → t D σ H → wpAny (model X.prog X.w) X.A (exec st X.env) (SP X pins D) X.xe s
def PSs (X:Cx) (st:List Stmt) (t:TS):Prop :=
  ∀ (pins:List (Addr × Obj)) (s:Shared) (σ:St) (H:Hp) (D:Ends),Inv X pins σ H s → t D σ H → wpAny (model X.prog X.w) X.A (execs st X.env) (SP X pins D) X.xe s
theorem thn {α:Type} {t:Sem α} {Q Q':α → Shared → Prop} {M:Model} {A:Around} {E:Value → Shared → Prop} {s:Shared} (h:wpAny M A t Q E s) (hQ:∀ a s,Q a s → Q' a s):wpAny M A t Q' E s := wpAny_mono h hQ fun _ _ x => x
end L2

namespace L2
open PySem PySem.Spec PyProof.Rows
section
variable {X:Cx}

theorem bin {a b:Expr} {ta tb:TE} (ha:PE X a ta) (hb:PE X b tb) {pins:List (Addr × Obj)} {s:Shared} {σ:St} {H:Hp} {R:V → V → Hp → Prop} (I:Inv X pins σ H s) (h:ta σ H fun x H1 => tb σ H1 fun y H2 => R x y H2)
    {α:Type} {Q:α → Shared → Prop} {f:Value → Value → Sem α}
    (hf:∀ v u s2 x y H2,Inv X pins σ H2 s2 → RelV x v → RelV y u → R x y H2 → wpAny (model X.prog X.w) X.A (f v u) Q X.xe s2) :
    wpAny (model X.prog X.w) X.A (eval a X.env) (fun v s₁ => wpAny (model X.prog X.w) X.A (eval b X.env) (fun u s₂ => wpAny (model X.prog X.w) X.A (f v u) Q X.xe s₂) X.xe s₁) X.xe s := by
  refine thn (ha pins s σ H _ I h) fun v s1 ⟨x,H1,I1,r1,q1⟩ => ?_
  refine thn (hb pins s1 σ H1 _ I1 q1) fun u s2 ⟨y,H2,I2,r2,q2⟩ => ?_
  exact hf v u s2 x y H2 I2 r1 r2 q2

def tVar (i:Nat):TE := fun σ H Q => ∃ v,σ[i]? = some (some v) ∧ Q v H
def tC (v:V):TE := fun _ H Q => Q v H
theorem JA7 {i:Nat} {x:Str} {pos:Pos} (hN:X.N[i]? = some x) (hv:Vis X.env.scope x) (hd:(x == ("__debug__":Str)) = false := by decide) (hcd:(x == ("__classdict__":Str)) = false := by decide):PE X (.Name x pos) (tVar i) := by
  intro pins s σ H Q I h
  obtain ⟨v,e,h⟩ := h
  obtain ⟨m,hn,hl⟩ := I.loc
  obtain ⟨u,r,l⟩ := hl i x v hN e hv
  have fin:EP X pins σ Q u s := ⟨v,H,I,r,h⟩
  rcases l with ⟨hk,hm⟩ | ⟨hk,c,hc,hcell⟩
  · exact wpAny_Name (wpAny_loadName_local I.ok.kind hk hn hm fin) hd
  · rcases hk with hk | hk
    · exact wpAny_Name (wpAny_loadName_cell I.ok.kind hk hc hcell fin) hd
    · exact wpAny_Name (wpAny_loadName_free I.ok.kind hk hc hcell fin hcd) hd
theorem Jw1 {i j pos}:PE X (.Constant (.int i) j pos) (tC (.int i)) := fun _ _ _ H _ I h => wpAny_Constant_int ⟨.int i,H,I.tok _,⟨_,rfl⟩,h⟩
theorem JDs {b j pos}:PE X (.Constant (.bool b) j pos) (tC (.bl b)) := fun _ _ _ H _ I h => Constant_bool ⟨.bl b,H,I,rfl,h⟩
theorem JBc {j pos}:PE X (.Constant .none j pos) (tC .non) := fun _ _ _ H _ I h => Constant_none ⟨.non,H,I,rfl,h⟩
def Gl (X:Cx) (x:Str):Prop := X.env.kindOf x = some .globalImplicit
theorem Jtf {E:Value → Shared → Prop} {pins:List (Addr × Obj)} {s:Shared} {σ:St} {H:Hp} {x:Str} {u:Value} {pos:Pos} {Q:Value → Shared → Prop} (I:Inv X pins σ H s) (hg:Gl X x) (hm:X.mg x = some u) (h:Q u s)
    (hd:(x == ("__debug__":Str)) = false := by decide):wpAny (model X.prog X.w) X.A (eval (.Name x pos) X.env) Q E s :=
  Calls.Name_function_global I.ok.kind hg (Calls.loadGlobal_global (by rw [I.ok.glob]; exact I.mod.glob.keeps I.bk) hm h) hd
theorem Jli {E:Value → Shared → Prop} {pins:List (Addr × Obj)} {s:Shared} {σ:St} {H:Hp} {x:Str} {u:Value} {pos:Pos} {Q:Value → Shared → Prop} (I:Inv X pins σ H s) (hg:Gl X x) (hm:X.mg x = none) (hv:bootBuiltins x = some u) (h:Q u s)
    (hn:x ≠ "__name__" := by decide) (hd:(x == ("__debug__":Str)) = false := by decide):wpAny (model X.prog X.w) X.A (eval (.Name x pos) X.env) Q E s := by
  obtain ⟨mb,h1,h2⟩ := I.mod.blt
  exact Calls.Name_function_global I.ok.kind hg (Calls.loadGlobal_builtin (by rw [I.ok.glob]; exact I.mod.glob.keeps I.bk) hm (by rw [I.ok.blt]; exact h1.keeps I.bk) ((h2 x hn).trans hv) h) hd
theorem Jsy {x:Str} {v:V} {u:Value} {pos:Pos} (hg:Gl X x) (hm:X.mg x = some u) (r:RelV v u) (hd:(x == ("__debug__":Str)) = false := by decide):PE X (.Name x pos) (tC v) :=
  fun _ _ _ H _ I h => Jtf I hg hm ⟨v,H,I,r,h⟩ hd
theorem Jyv {x:Str} {v:V} {u:Value} {pos:Pos} (hg:Gl X x) (hm:X.mg x = none) (hv:bootBuiltins x = some u) (r:RelV v u) (hn:x ≠ "__name__" := by decide) (hd:(x == ("__debug__":Str)) = false := by decide):PE X (.Name x pos) (tC v) :=
  fun _ _ _ H _ I h => Jli I hg hm hv ⟨v,H,I,r,h⟩ hn hd

variable {a b:Expr} {ta tb:TE} {pos:Pos}
def PC (X:Cx) (op:CmpOp) (a b:Expr) (t:TE):Prop :=
  ∀ (pins:List (Addr × Obj)) (s:Shared) (σ:St) (H:Hp) (Q:VK),Inv X pins σ H s → t σ H Q →
    wpAny (model X.prog X.w) X.A (eval a X.env) (fun v s₁ => wpAny (model X.prog X.w) X.A (eval b X.env) (fun u s₂ => wpAny (model X.prog X.w) X.A (compareOp op v u) (EP X pins σ Q) X.xe s₂) X.xe s₁) X.xe s
theorem Jvi (b:Expr) {op:CmpOp} (h:op ≠ .In) (h2:op ≠ .NotIn):behindInMarks op b = false := by
  have e1:(op == CmpOp.In) = false := by cases op <;> first | rfl | exact absurd rfl h
  have e2:(op == CmpOp.NotIn) = false := by cases op <;> first | rfl | exact absurd rfl h2
  cases b <;> simp [behindInMarks,e1,e2]
def tB (t:TE):TT := fun σ H Q => t σ H fun x H1 => ∃ c,x = .bl c ∧ Q c H1
theorem JD8 {op:CmpOp} {t:TE} (h:PC X op a b t) (h1:behindInMarks op b = false := by first | exact Jvi _ (by decide) (by decide) | rfl):PT X (.Compare a [op] [b] pos) (tB t) := by
  intro pins s σ H Q I hw
  refine wpAny_isTrue_Compare1 (thn (h pins s σ H _ I hw) fun v s1 h1 => thn h1 fun u s2 h2 => thn h2 fun c s3 ⟨x,H1,I1,r1,q1⟩ => ?_) h1
  obtain ⟨d,rfl,q⟩ := q1
  cases r1
  exact wpAny_truthy_bool ⟨H1,I1,q⟩
theorem JAz {e:Expr} {t:TE} (h:PE X e t) (he:∀ whole,isTrue e X.env whole = (do let v ← whole; standAt e.pos; holding [v] (truthy v)) := by intro _; rfl):PT X e (tB t) := by
  intro pins s σ H Q I hw
  refine isTrue_plain (thn (h pins s σ H _ I hw) fun v s1 ⟨x,H1,I1,r1,q1⟩ => ?_) (he _)
  obtain ⟨d,rfl,q⟩ := q1
  cases r1
  exact wpAny_truthy_bool ⟨H1,I1,q⟩

variable {tA tB':TT} {rest:List Expr}
def tAnd (t u:TT):TT := fun σ H Q => t σ H fun c H1 => if c = true then u σ H1 Q else Q false H1
def tOr (t u:TT):TT := fun σ H Q => t σ H fun c H1 => if c = true then Q true H1 else u σ H1 Q
def tNot (t:TT):TT := fun σ H Q => t σ H fun c H1 => Q (!c) H1
theorem Jyg (ha:PT X a tA):PW X (.BoolOp .And [a] pos) tA := by
  intro wh pins s σ H Q I h
  refine isTrue_and (thn (ha pins s σ H Q I h) fun c s1 e => ?_)
  cases c with
  | true => exact isTrue_and_nil e
  | false => exact e
theorem JAv (ha:PT X a tA):PW X (.BoolOp .Or [a] pos) tA := by
  intro wh pins s σ H Q I h
  refine isTrue_or (thn (ha pins s σ H Q I h) fun c s1 e => ?_)
  cases c with
  | false => exact isTrue_or_nil e
  | true => exact e
theorem JAw (ha:PT X a tA) (hb:PW X (.BoolOp .And (b :: rest) pos) tB'):PW X (.BoolOp .And (a :: b :: rest) pos) (tAnd tA tB') := by
  intro wh pins s σ H Q I h
  refine isTrue_and (thn (ha pins s σ H _ I h) fun c s1 ⟨H1,I1,q1⟩ => ?_)
  cases c with
  | true => exact hb wh pins s1 σ H1 Q I1 q1
  | false => exact ⟨H1,I1,q1⟩
theorem JDn (ha:PT X a tA) (hb:PW X (.BoolOp .Or (b :: rest) pos) tB'):PW X (.BoolOp .Or (a :: b :: rest) pos) (tOr tA tB') := by
  intro wh pins s σ H Q I h
  refine isTrue_or (thn (ha pins s σ H _ I h) fun c s1 ⟨H1,I1,q1⟩ => ?_)
  cases c with
  | true => exact ⟨H1,I1,q1⟩
  | false => exact hb wh pins s1 σ H1 Q I1 q1
theorem JA0 (ha:PT X a tA):PT X (.UnaryOp .Not a pos) (tNot tA) := by
  intro pins s σ H Q I h
  exact isTrue_not (ha pins s σ H (fun c H1 => Q (!c) H1) I h)
def JDg (ta tb:TE):TE := fun σ H Q => ta σ H fun x H1 => ∃ c,x = .bl c ∧ if c = true then tb σ H1 Q else Q (.bl false) H1
def JDd (ta:TE):TE := fun σ H Q => ta σ H fun x H1 => ∃ c,x = .bl c ∧ Q (.bl (!c)) H1
theorem JBa {op} {t:TE} (h:PE X a t):PE X (.BoolOp op [a] pos) t := fun pins s σ H Q I hw => BoolOp_one (h pins s σ H Q I hw)
theorem JBd (ha:PE X a ta) (hb:PE X (.BoolOp .And (b :: rest) pos) tb):PE X (.BoolOp .And (a :: b :: rest) pos) (JDg ta tb) := by
  intro pins s σ H Q I h
  refine BoolOp_and (thn (ha pins s σ H _ I h) fun v s1 ⟨x,H1,I1,r1,q1⟩ => ?_)
  obtain ⟨c,rfl,q1⟩ := q1
  cases r1
  refine wpAny_truthy_bool ?_
  cases c with
  | true => exact hb pins s1 σ H1 Q I1 q1
  | false => exact ⟨.bl false,H1,I1,rfl,q1⟩
theorem JBb (ha:PE X a ta):PE X (.UnaryOp .Not a pos) (JDd ta) := by
  intro pins s σ H Q I h
  refine UnaryOp_ (thn (ha pins s σ H _ I h) fun v s1 ⟨x,H1,I1,r1,q1⟩ => ?_)
  obtain ⟨c,rfl,q1⟩ := q1
  cases r1
  exact not_of (wpAny_truthy_bool ⟨.bl (!c),H1,I1,rfl,q1⟩)
end
end L2

namespace L2
open PySem PySem.Spec PyProof.Rows

def SqL (K:PySem.W.Frag) (H:Hp) (a:Addr) (xs:List V):Prop :=
  Rd H a (.lst xs) ∨
    ∃ (o:Obj) (its:Array Value) (n:Nat),K.lookup a = some o ∧ o.cls = .type "list" ∧ o.dict = none ∧ o.data = .seq its n ∧ its.size ≤ sizeLine ∧ Vals xs its.toList
def SqT (K:PySem.W.Frag) (H:Hp) (a:Addr) (xs:List V):Prop :=
  Rd H a (.tup xs) ∨
    ∃ (o:Obj) (its:Array Value) (n:Nat),K.lookup a = some o ∧ o.cls = .type "tuple" ∧ o.data = .seq its n ∧ its.size ≤ sizeLine ∧ Vals xs its.toList
def absV:Value → Option V
  | .none => some .non
  | .bool b => some (.bl b)
  | .int i _ => some (.int i)
  | .str x _ => some (.str x)
  | .bytes b _ => some (.byt b)
  | .float b _ => some (.flt b)
  | .ref a => some (.ref a)
  | .type n => some (.ty n)
  | _ => none
theorem RelV.abs {x:V} {u:Value} (r:RelV x u):absV u = some x := by
  cases x with
  | non => cases r; rfl
  | bl _ => cases r; rfl
  | int _ => obtain ⟨t,rfl⟩ := r; rfl
  | str _ => obtain ⟨t,rfl⟩ := r; rfl
  | byt _ => obtain ⟨t,rfl⟩ := r; rfl
  | flt _ => obtain ⟨t,rfl⟩ := r; rfl
  | ref _ => cases r; rfl
  | ty _ => cases r; rfl
theorem RelV.inj {x y:V} {u:Value} (r:RelV x u) (q:RelV y u):x = y := Option.some.inj (r.abs.symm.trans q.abs)
theorem Vals.inj:∀ {xs ys:List V} {us:List Value},Vals xs us → Vals ys us → xs = ys
  | _,_,_,.nil,.nil => rfl
  | _,_,_,.cons r t,.cons r' t' => by rw [r.inj r',Vals.inj t t']
section
variable {X:Cx} {pins:List (Addr × Obj)} {σ:St} {H:Hp} {s:Shared} {a:Addr} {xs ys:List V}
theorem SqL.of {K:PySem.W.Frag} (h:H a = some (.lst xs)):SqL K H a xs := .inl (.inl h)
theorem SqT.of {K:PySem.W.Frag} (h:H a = some (.tup xs)):SqT K H a xs := .inl (.inl h)
theorem Inv.list (I:Inv X pins σ H s) (h:SqL X.K H a xs):∃ its:List Value,Vals xs its ∧ PlainL s.heap a its.toArray ∧ xs.length ≤ sizeLine := by
  rcases h with h | ⟨o,its,n,hk,hc,hd,hs,hz,r⟩
  · obtain ⟨z,its,n,r,e⟩ := h.ok I.hok
    exact ⟨its,r,⟨_,n,e,rfl,rfl,rfl⟩,z⟩
  · refine ⟨its.toList,r,⟨o,n,I.kIn a o hk,hc,hd,by simpa using hs⟩,?_⟩
    have e := r.length
    simp only [Array.length_toList] at e
    omega
theorem Inv.tuple (I:Inv X pins σ H s) (h:SqT X.K H a xs):∃ its:List Value,Vals xs its ∧ IsTup s.heap a its.toArray ∧ xs.length ≤ sizeLine := by
  rcases h with h | ⟨o,its,n,hk,hc,hs,hz,r⟩
  · obtain ⟨z,its,r,p⟩ := h.ok I.hok
    exact ⟨its,r,p,z⟩
  · refine ⟨its.toList,r,⟨o,I.kIn a o hk,hc,n,by simpa using hs⟩,?_⟩
    have e := r.length
    simp only [Array.length_toList] at e
    omega
theorem Inv.Jqo (I:Inv X pins σ H s) (h:SqL X.K H a xs) (h':SqL X.K H a ys):xs = ys := by
  obtain ⟨its,r,⟨o,n,e,_,_,d⟩,_⟩ := I.list h
  obtain ⟨its',r',⟨o',n',e',_,_,d'⟩,_⟩ := I.list h'
  rw [e] at e'; cases e'
  rw [d] at d'
  injection d' with d1 _
  have:its = its' := by simpa using congrArg Array.toList d1
  subst this
  exact r.inj r'
theorem Inv.Jr5 (I:Inv X pins σ H s) (h:SqT X.K H a xs) (h':SqT X.K H a ys):xs = ys := by
  obtain ⟨its,r,⟨o,e,_,n,d⟩,_⟩ := I.tuple h
  obtain ⟨its',r',⟨o',e',_,n',d'⟩,_⟩ := I.tuple h'
  rw [e] at e'; cases e'
  rw [d] at d'
  injection d' with d1 _
  have:its = its' := by simpa using congrArg Array.toList d1
  subst this
  exact r.inj r'
end

abbrev Cx.wish (X:Cx) (E:Value → Shared → Prop):Cx := { X with xe := E }
abbrev Cx.nox (X:Cx):Cx := X.wish fun _ _ => False
theorem Cx.Ok.wish {X:Cx} (ok:X.Ok) (E:Value → Shared → Prop):(X.wish E).Ok :=
  ⟨ok.mod,ok.kind,ok.glob,ok.blt,ok.above,ok.inj,ok.has,ok.cab,ok.hd,ok.frames,ok.stk,ok.exf,ok.bs,ok.bsz,ok.noex,ok.exfs,ok.funs,ok.frf,ok.sy⟩
theorem Cx.Ok.Jhs {X:Cx} {E:Value → Shared → Prop} (ok:(X.wish E).Ok):X.Ok :=
  ⟨ok.mod,ok.kind,ok.glob,ok.blt,ok.above,ok.inj,ok.has,ok.cab,ok.hd,ok.frames,ok.stk,ok.exf,ok.bs,ok.bsz,ok.noex,ok.exfs,ok.funs,ok.frf,ok.sy⟩
section
variable {X:Cx} {pins:List (Addr × Obj)} {σ:St} {H:Hp} {s:Shared} {E:Value → Shared → Prop}
theorem Inv.wish (I:Inv X pins σ H s) (E:Value → Shared → Prop):Inv (X.wish E) pins σ H s := ⟨I.ok.wish E,I.os,I.bare,I.base,I.loc,I.cell,I.free,I.freeC,I.pin,I.hok,I.len⟩
theorem Inv.Jhs (I:Inv (X.wish E) pins σ H s):Inv X pins σ H s := ⟨I.ok.Jhs,I.os,I.bare,I.base,I.loc,I.cell,I.free,I.freeC,I.pin,I.hok,I.len⟩
theorem SP.Jhs {D:Ends} {f:Flow} {s':Shared} (h:SP (X.wish E) pins D f s'):SP X pins D f s' := by
  cases f with
  | next => obtain ⟨σ',H',I,q⟩ := h; exact ⟨σ',H',I.Jhs,q⟩
  | brk => obtain ⟨σ',H',I,q⟩ := h; exact ⟨σ',H',I.Jhs,q⟩
  | cont => obtain ⟨σ',H',I,q⟩ := h; exact ⟨σ',H',I.Jhs,q⟩
  | ret u => obtain ⟨v,σ',H',I,r,q⟩ := h; exact ⟨v,σ',H',I.Jhs,r,q⟩
theorem PE.nox {e:Expr} {t:TE} (h:PE X.nox e t):PE X e t := fun pins s σ H Q I hw =>
  wpAny_mono (h pins s σ H Q (I.wish _) hw) (fun _ _ ⟨v,H',I',r,q⟩ => ⟨v,H',I'.Jhs,r,q⟩) fun _ _ z => False.elim z
theorem PT.nox {e:Expr} {t:TT} (h:PT X.nox e t):PT X e t := fun pins s σ H Q I hw =>
  wpAny_mono (h pins s σ H Q (I.wish _) hw) (fun _ _ ⟨H',I',q⟩ => ⟨H',I'.Jhs,q⟩) fun _ _ z => False.elim z
theorem PSs.nox {st:List Stmt} {t:TS} (h:PSs X.nox st t):PSs X st t := fun pins s σ H D I hw =>
  wpAny_mono (h pins s σ H D (I.wish _) hw) (fun _ _ q => q.Jhs) fun _ _ z => False.elim z
end

section
variable {X:Cx} {st:Stmt} {rest:List Stmt} {t u:TS} {e:Expr} {te:TE} {pos:Pos}
def JDe:TS := fun D σ H => D.nx σ H
def tSeq (t u:TS):TS := fun D σ H => t { D with nx := u D } σ H
theorem Jyl:PSs X [] JDe := fun _ _ σ H _ I h => wpAny_execs_nil ⟨σ,H,I,h⟩
theorem Ju6 (h1:PS X st t) (h2:PSs X rest u):PSs X (st :: rest) (tSeq t u) := by
  intro pins s σ H D I h
  refine wpAny_execs_cons (thn (h1 pins s σ H { D with nx := u D } I h) fun f s1 q => ?_)
  cases f with
  | next =>
    obtain ⟨σ',H',I',q⟩ := q
    exact h2 pins s1 σ' H' D I' q
  | ret v => exact q
  | brk => exact q
  | cont => exact q
theorem Jyk (h1:PS X st t):PSs X [st] t := by
  intro pins s σ H D I h
  refine wpAny_execs_cons (thn (h1 pins s σ H D I h) fun f s1 q => ?_)
  cases f with
  | next => exact wpAny_execs_nil q
  | ret v => exact q
  | brk => exact q
  | cont => exact q
theorem Inv.quiet {pins:List (Addr × Obj)} {σ:St} {H:Hp} {s:Shared} (I:Inv X pins σ H s):interactive X.env = false := by simp [interactive,I.ok.kind]
def JDf (te:TE):TS := fun D σ H => te σ H fun _ H1 => D.nx σ H1
theorem Jyn (he:PE X e te) (hs:swapsWith e none pos.line X.env = pure false := by rfl):PS X (.Expr e pos) (JDf te) := by
  intro pins s σ H D I h
  exact wpAny_Expr_any (thn (he pins s σ H _ I h) fun v s1 ⟨x,H1,I1,r1,q1⟩ => ⟨σ,H1,I1,q1⟩) I.quiet hs
def tRet (te:TE):TS := fun D σ H => te σ H D.rt
theorem JA2 (he:PE X e te):PS X (.Return (some e) pos) (tRet te) := by
  intro pins s σ H D I h
  exact wpAny_Return_some (thn (he pins s σ H _ I h) fun v s1 ⟨x,H1,I1,r1,q1⟩ => ⟨x,σ,H1,I1,r1,q1⟩)
def tIfS (c:TT) (t u:TS):TS := fun D σ H => c σ H fun b H1 => if b = true then t D σ H1 else u D σ H1
theorem JDo {c:Expr} {a b:List Stmt} {tc:TT} (hc:PT X c tc) (ha:PSs X a t) (hb:PSs X b u):PS X (.If c a b pos) (tIfS tc t u) := by
  intro pins s σ H D I h
  refine wpAny_If (thn (hc pins s σ H _ I h) fun d s1 ⟨H1,I1,q1⟩ => ?_)
  cases d with
  | true => exact ha pins s1 σ H1 D I1 q1
  | false => exact hb pins s1 σ H1 D I1 q1
def JAi:TS := fun _ _ _ => False
theorem Ju7:PS X st JAi := fun _ _ _ _ _ _ h => h.elim
end

abbrev TG := V → St → Hp → (St → Hp → Prop) → Prop
abbrev TGs := List V → St → Hp → (St → Hp → Prop) → Prop
def PG (X:Cx) (target:Expr) (t:TG):Prop :=
  ∀ (pins:List (Addr × Obj)) (s:Shared) (σ:St) (H:Hp) (v:V) (u:Value) (Q:St → Hp → Prop),Inv X pins σ H s → RelV v u → t v σ H Q →
    wpAny (model X.prog X.w) X.A (assign target X.env u) (fun _ s' => ∃ σ' H',Inv X pins σ' H' s' ∧ Q σ' H') X.xe s
def PGs (X:Cx) (ts:List Expr) (t:TGs):Prop :=
  ∀ (pins:List (Addr × Obj)) (s:Shared) (σ:St) (H:Hp) (vs:List V) (us:List Value) (Q:St → Hp → Prop),Inv X pins σ H s → Vals vs us → t vs σ H Q →
    wpAny (model X.prog X.w) X.A (assignInOrder ((assignEach ts X.env).map (·.2)) us) (fun _ s' => ∃ σ' H',Inv X pins σ' H' s' ∧ Q σ' H') X.xe s
abbrev TSet := V → V → V → Hp → (Hp → Prop) → Prop
def PSet (X:Cx) (t:TSet):Prop :=
  ∀ (pins:List (Addr × Obj)) (s:Shared) (σ:St) (H:Hp) (o i v:V) (ov iv u:Value) (Q:Hp → Prop),Inv X pins σ H s → RelV o ov → RelV i iv → RelV v u → t o i v H Q →
    wpAny (model X.prog X.w) X.A (setItem ov iv u) (fun _ s' => ∃ H',Inv X pins σ H' s' ∧ Q H') X.xe s
section
variable {X:Cx} {pos:Pos}
def Jwl (i:Nat):TG := fun v σ H Q => Q (σ.set i (some v)) H
theorem Jys {i:Nat} {x:Str} (hN:X.N.Nodup) (hi:X.N[i]? = some x) (hx:Loc X.env.scope x) (hf:X.fn x = true ∨ X.env.scope.names.lookup x = some .local := by first | exact .inl rfl | exact .inr rfl | assumption):PG X (.Name x pos) (Jwl i) := by
  intro pins s σ H v u Q I r h
  exact wpAny_assign_Name (Jp3 I hN hi hx r (fun s' I' => ⟨_,H,I',h⟩) hf)
def gNil:TGs := fun vs σ H Q => vs = [] ∧ Q σ H
def Jzv (t:TG) (u:TGs):TGs := fun vs σ H Q => ∃ v r,vs = v :: r ∧ t v σ H fun σ' H' => u r σ' H' Q
theorem Jyr:PGs X [] gNil := by
  intro pins s σ H vs us Q I r h
  obtain ⟨e,h⟩ := h
  subst e
  cases r
  exact assignInOrder_nil ⟨σ,H,I,h⟩
theorem Ju9 {e:Expr} {es:List Expr} {t:TG} {u:TGs} (h1:PG X e t) (h2:PGs X es u)
    (hs:(assignEach (e :: es) X.env).map (·.2) = assign e X.env :: (assignEach es X.env).map (·.2) := by rfl):PGs X (e :: es) (Jzv t u) := by
  intro pins s σ H vs us Q I r h
  obtain ⟨v,vr,e1,h⟩ := h
  subst e1
  cases r with
  | cons r rr =>
    rw [hs]
    refine assignInOrder_cons (thn (h1 pins s σ H _ _ _ I r h) fun _ s1 ⟨σ1,H1,I1,q1⟩ => ?_)
    exact h2 pins s1 σ1 H1 _ _ Q I1 rr q1
def gTup (K:PySem.W.Frag) (n:Nat) (t:TGs):TG := fun v σ H Q => ∃ a xs,v = .ref a ∧ SqT K H a xs ∧ xs.length = n ∧ t xs σ H Q
theorem JA5 {es:List Expr} {k:Nat} {t:TGs} {n:Nat} (hc:X.calm = true) (h:PGs X es t)
    (hn:(assignEach es X.env).length = n := by rfl) (hst:(assignEach es X.env).findIdx? (·.1) = none := by rfl):PG X (.Tuple es k pos) (gTup X.K n t) := by
  intro pins s σ H v u Q I r hw
  obtain ⟨a,xs,e1,hq,hl,hw⟩ := hw
  subst e1
  cases r
  obtain ⟨its,rv,ht,hz⟩ := I.tuple hq
  refine assign_Tuple_tuple (I.ok.hd hc) ht (by simp [hn,← hl,rv.length]) hst fun h' hx => ?_
  have I1:Inv X pins σ H { s with heap := h' } := I.kept (t' := s.toks) fun b o e => hx b o (Nat.ne_of_lt (Heap.lt_size e)) e
  exact h pins _ σ H xs _ Q I1 (by simpa using rv) hw
def gSub (to ti:TE) (t:TSet):TG := fun v σ H Q => to σ H fun o H1 => ti σ H1 fun i H2 => t o i v H2 fun H3 => Q σ H3
theorem JA6 {o i:Expr} {to ti:TE} {t:TSet} (ho:PE X o to) (hi:PE X i ti) (hs:PSet X t)
    (ha:∀ v,assign (.Subscript o i pos) X.env v = (do
      let ov ← holding [v] (eval o X.env)
      let iv ← holding [v,ov] (eval i X.env)
      standAt pos
      holding [v,ov,iv] (setItem ov iv v)
      release [v,ov,iv] []) := by intro _; rfl):PG X (.Subscript o i pos) (gSub to ti t) := by
  intro pins s σ H v u Q I r h
  rw [ha]
  refine wpAny_bind (wpAny_holding (thn (ho pins s σ H _ I h) fun ov s1 ⟨x,H1,I1,r1,q1⟩ => ?_))
  refine wpAny_bind (wpAny_holding (thn (hi pins s1 σ H1 _ I1 q1) fun iv s2 ⟨y,H2,I2,r2,q2⟩ => ?_))
  refine wpAny_bind (wpAny_standAt (wpAny_bind (wpAny_holding (thn (hs pins s2 σ H2 x y v ov iv u _ I2 r1 r2 r q2) fun _ s3 ⟨H3,I3,q3⟩ => ?_))))
  exact wpAny_release ⟨σ,H3,I3,q3⟩
def tAsg (te:TE) (g:TG):TS := fun D σ H => te σ H fun x H1 => g x σ H1 D.nx
theorem Jwy {tg e:Expr} {te:TE} {g:TG} (he:PE X e te) (hg:PG X tg g) (hs:swapsWithSole [tg] e pos.line X.env = pure false := by rfl) (hw:swappedStores [tg] e X.env = pure none := by rfl)
    (h1:(assignEach [tg] X.env).map (·.2) = [assign tg X.env] := by rfl):PS X (.Assign [tg] e pos) (tAsg te g) := by
  intro pins s σ H D I h
  refine wpAny_Assign_stores (thn (he pins s σ H _ I h) fun v s1 ⟨x,H1,I1,r1,q1⟩ => ?_) hs hw
  rw [h1]
  exact thn (hg pins s1 σ H1 x v _ I1 r1 q1) fun _ s2 q => q
theorem JA1 {i:Nat} {x:Str} {e:Expr} {te:TE} {pos':Pos} (hN:X.N.Nodup) (hi:X.N[i]? = some x) (hx:Loc X.env.scope x) (he:PE X e te) (hs:swapsWith e (some (.Name x pos')) pos.line X.env = pure false := by rfl) (hf:X.fn x = true ∨ X.env.scope.names.lookup x = some .local := by first | exact .inl rfl | exact .inr rfl | assumption) :
    PS X (.Assign [.Name x pos'] e pos) (tAsg te (Jwl i)) := by
  intro pins s σ H D I h
  refine wpAny_Assign_Name (thn (he pins s σ H _ I h) fun v s1 ⟨y,H1,I1,r1,q1⟩ => ?_) hs
  exact Jp3 I1 hN hi hx r1 (fun s2 I2 => ⟨_,H1,I2,q1⟩) hf
end

section
variable {X:Cx} {pos:Pos}
end


structure It where
  go:Nat → Hp → Prop
  yld:Nat → Hp → V → Hp → Prop
  stop:Nat → Hp → Prop
def FpOk (X:Cx) (pins:List (Addr × Obj)) (H:Hp) (b:Addr):Prop :=
  H b = none ∧ b ≠ X.env.locals ∧ b ∉ X.fs ∧ (b ∈ X.ex ∨ X.s₀.heap.objs.size ≤ b) ∧ (∀ x c,X.env.cells.lookup x = some c → c ≠ b) ∧ ∀ p ∈ X.pn ++ pins,p.1 ≠ b
theorem Inv.fpOk {X:Cx} {pins:List (Addr × Obj)} {σ:St} {H H':Hp} {s:Shared} {b:Addr} (I:Inv X pins σ H s) (hb:s.heap.objs.size ≤ b) (hn:H' b = none):FpOk X pins H' b := by
  refine ⟨hn,Nat.ne_of_gt (Nat.lt_of_lt_of_le I.lt hb),I.nofs hb,.inr (Nat.le_trans I.sz hb),fun x c e z => ?_,fun p hp z => ?_⟩
  · obtain ⟨v,q⟩ := I.cell x c e
    exact absurd (Nat.lt_of_lt_of_le q.lt (by rw [z]; exact hb)) (Nat.lt_irrefl _)
  · exact absurd (Nat.lt_of_lt_of_le (Heap.lt_size (I.pin p hp).1) (by rw [z]; exact hb)) (Nat.lt_irrefl _)
structure Turn (P:Program) (w:World) (K:PySem.W.Frag) (tg:Expr) (J:It) (fp:List Addr) (it:Addr) (tn:Nat → Heap → Prop):Prop where
  mem:it ∈ fp
  obj:∀ i h,tn i h → ∀ b ∈ fp,∃ o,h.get? b = some o ∧ ∀ v,o.data ≠ .cell v
  keep:∀ i h h',tn i h → (∀ b ∈ fp,∀ o,h.get? b = some o → h'.get? b = some o) → tn i h'
  item:∀ (X:Cx),X.prog = P → X.w = w → X.K = K → X.calm = true → ∀ (i:Nat) (pins:List (Addr × Obj)) (s:Shared) (σ:St) (H:Hp) (E:Value → Shared → Prop),Inv X pins σ H s → (∀ b ∈ fp,FpOk X pins H b) → tn i s.heap → J.go i H →
    wpAny (model P w) X.A (pyNext (.ref it)) (fun r s1 => ∃ u,r = some u ∧
      wpAny (model P w) X.A (letOwnedTupleGo tg (.ref it) u) (fun _ s2 => ∃ x H',Inv X pins σ H' s2 ∧ RelV x u ∧ J.yld i H x H' ∧ tn (i + 1) s2.heap ∧ ∀ b ∈ fp,H' b = none) E s1) E s
  done:∀ (X:Cx),X.prog = P → X.w = w → X.K = K → X.calm = true → ∀ (i:Nat) (pins:List (Addr × Obj)) (s:Shared) (σ:St) (H:Hp) (E:Value → Shared → Prop),Inv X pins σ H s → (∀ b ∈ fp,FpOk X pins H b) → tn i s.heap → J.stop i H →
    wpAny (model P w) X.A (pyNext (.ref it)) (fun r s1 => r = none ∧ Inv X pins σ H s1) E s
  self:∀ (A:Around) (i:Nat) (s:Shared) (Q:Value → Shared → Prop) (E:Value → Shared → Prop),tn i s.heap → Q (.ref it) s → wpAny (model P w) A (pyIter (.ref it)) Q E s
abbrev TI := St → Hp → (It → Hp → Prop) → Prop
def PIE (X:Cx) (pins:List (Addr × Obj)) (σ:St) (tg:Expr) (R:It → Hp → Prop) (itv:Value) (s2:Shared):Prop :=
  ∃ (it:Addr) (fp:List Addr) (tn:Nat → Heap → Prop) (J:It) (H':Hp),itv = .ref it ∧ Inv X pins σ H' s2 ∧ Turn X.prog X.w X.K tg J fp it tn ∧ tn 0 s2.heap ∧ (∀ b ∈ fp,FpOk X pins H' b) ∧ R J H'
def PI (X:Cx) (tg iter:Expr) (wi:TI):Prop :=
  ∀ (pins:List (Addr × Obj)) (s:Shared) (σ:St) (H:Hp) (R:It → Hp → Prop),Inv X pins σ H s → wi σ H R →
    wpAny (model X.prog X.w) X.A (eval iter X.env) (fun v s1 => wpAny (model X.prog X.w) X.A (pyIter v) (PIE X pins σ tg R) X.xe s1) X.xe s

theorem Jzu {M:Model} {A:Around} {E:Value → Shared → Prop} {s:Shared} {tg:Expr} {it:Addr} {u:Value} {o:Obj} {n:String} {vs:Array Value} {Q:Unit → Shared → Prop} (ho:s.heap.get? it = some o) (hc:o.cls = .type n) (hd:o.data = .fields vs)
    (hn:["enumerate","zip","dict_itemiterator","dict_reverseitemiterator","odict_iterator","itertools.zip_longest","itertools.pairwise"].contains n = false) (hQ:Q () s):wpAny M A (letOwnedTupleGo tg (.ref it) u) Q E s := by
  unfold letOwnedTupleGo
  cases tg <;> first
    | exact wpAny_pure hQ
    | (cases u <;> first
        | exact wpAny_pure hQ
        | (refine wpAny_bind (wpAny_load ho ?_)
           rw [hc,hd]
           show wpAny M A (if (["enumerate","zip","dict_itemiterator","dict_reverseitemiterator","odict_iterator","itertools.zip_longest","itertools.pairwise"].contains n && vs[0]? == some (rawInt _)) = true then _ else _) Q E s
           rw [if_neg (by intro h; rw [hn,Bool.false_and] at h; cases h)]
           exact wpAny_pure hQ))

def Itl (K:PySem.W.Frag) (a:Addr):It :=
  ⟨fun i H => ∃ xs x,SqL K H a xs ∧ xs[i]? = some x,fun i H x H' => H' = H ∧ ∀ xs,SqL K H a xs → xs[i]? = some x,fun i H => ∃ xs,SqL K H a xs ∧ xs.length ≤ i⟩
def Itt (K:PySem.W.Frag) (a:Addr):It :=
  ⟨fun i H => ∃ xs x,SqT K H a xs ∧ xs[i]? = some x,fun i H x H' => H' = H ∧ ∀ xs,SqT K H a xs → xs[i]? = some x,fun i H => ∃ xs,SqT K H a xs ∧ xs.length ≤ i⟩
def Itr (lo:Int) (n:Nat):It := ⟨fun i _ => i < n,fun i H x H' => H' = H ∧ x = .int (lo + i),fun i _ => n ≤ i⟩
theorem Jr3 {P:Program} {w:World} {K:PySem.W.Frag} {tg:Expr} (a it:Addr):Turn P w K tg (Itl K a) [it] it (fun i h => h.IsListIter it a i) where
  mem := by simp
  obj := fun i h st b hb => by
    have e:b = it := by simpa using hb
    subst e
    obtain ⟨o,e,c,d⟩ := st
    exact ⟨o,e,fun v z => by rw [d] at z; cases z⟩
  keep := fun i h h' st k => st.at fun o e => k it (by simp) o e
  item := by
    intro X hP hw hK hc i pins s σ H E I hf st hg
    subst hP hw hK
    obtain ⟨xs,x,hq,hx⟩ := hg
    obtain ⟨its,rv,p,hz⟩ := I.list hq
    obtain ⟨u,hu,ru⟩ := rv.get hx
    obtain ⟨f0,f1,f2,f3,f4,f5⟩ := hf it (by simp)
    refine wpAny_pyNext_list_item st p.isList (x := u) (by simpa using hu) fun h' st' sb => ?_
    have I1:Inv X pins σ H { s with heap := h' } := I.turned (t' := s.toks) (fun b o hb e => (sb.2 b hb).trans e) f0 f1 f3 f4 f5
    obtain ⟨o,e,c,d⟩ := id st'
    exact ⟨u,rfl,Jzu (s := { s with heap := h' }) e c d (by decide) ⟨x,H,I1,ru,⟨rfl,fun ys hy => by rw [I.Jqo hy hq]; exact hx⟩,st',fun b hb => (hf b hb).1⟩⟩
  done := by
    intro X hP hw hK hc i pins s σ H E I hf st hg
    subst hP hw hK
    obtain ⟨xs,hq,hx⟩ := hg
    obtain ⟨its,rv,p,hz⟩ := I.list hq
    obtain ⟨f0,f1,f2,f3,f4,f5⟩ := hf it (by simp)
    have hl := rv.length
    exact wpAny_pyNext_list_end (I.ok.hd hc) st p.isList (by simp; omega) fun h' eb => ⟨rfl,I.turned (t' := s.toks) (fun b o hb e => eb b o hb e) f0 f1 f3 f4 f5⟩
  self := fun _ _ _ _ _ st h => wpAny_pyIter_listiter st h
theorem Jra {P:Program} {w:World} {K:PySem.W.Frag} {tg:Expr} (a it:Addr):Turn P w K tg (Itt K a) [it] it (fun i h => h.IsTupleIter it a i) where
  mem := by simp
  obj := fun i h st b hb => by
    have e:b = it := by simpa using hb
    subst e
    obtain ⟨o,e,c,d⟩ := st
    exact ⟨o,e,fun v z => by rw [d] at z; cases z⟩
  keep := fun i h h' st k => st.at fun o e => k it (by simp) o e
  item := by
    intro X hP hw hK hc i pins s σ H E I hf st hg
    subst hP hw hK
    obtain ⟨xs,x,hq,hx⟩ := hg
    obtain ⟨its,rv,p,hz⟩ := I.tuple hq
    obtain ⟨u,hu,ru⟩ := rv.get hx
    obtain ⟨f0,f1,f2,f3,f4,f5⟩ := hf it (by simp)
    refine wpAny_pyNext_tuple_item st (show s.heap.IsTuple a its.toArray from p) (x := u) (by simpa using hu) fun h' st' sb => ?_
    have I1:Inv X pins σ H { s with heap := h' } := I.turned (t' := s.toks) (fun b o hb e => (sb.2 b hb).trans e) f0 f1 f3 f4 f5
    obtain ⟨o,e,c,d⟩ := id st'
    exact ⟨u,rfl,Jzu (s := { s with heap := h' }) e c d (by decide) ⟨x,H,I1,ru,⟨rfl,fun ys hy => by rw [I.Jr5 hy hq]; exact hx⟩,st',fun b hb => (hf b hb).1⟩⟩
  done := by
    intro X hP hw hK hc i pins s σ H E I hf st hg
    subst hP hw hK
    obtain ⟨xs,hq,hx⟩ := hg
    obtain ⟨its,rv,p,hz⟩ := I.tuple hq
    obtain ⟨f0,f1,f2,f3,f4,f5⟩ := hf it (by simp)
    have hl := rv.length
    exact wpAny_pyNext_tuple_end (I.ok.hd hc) st (show s.heap.IsTuple a its.toArray from p) (by simp; omega) fun h' eb => ⟨rfl,I.turned (t' := s.toks) (fun b o hb e => eb b o hb e) f0 f1 f3 f4 f5⟩
  self := fun _ _ _ _ _ st h => wpAny_pyIter_tupleiter st h
theorem Jrb {P:Program} {w:World} {K:PySem.W.Frag} {tg:Expr} (it:Addr) (lo:Int) (n:Nat):Turn P w K tg (Itr lo n) [it] it (fun i h => IsRangeIter h it (lo + (i:Nat) * 1) ((n:Int) - (i:Nat)) 1) where
  mem := by simp
  obj := fun i h st b hb => by
    have e:b = it := by simpa using hb
    subst e
    exact ⟨_,st,fun v z => by
      have z':Data.fields _ = Data.cell v := z
      cases z'⟩
  keep := fun i h h' st k => k it (by simp) _ st
  item := by
    intro X hP hw hK hc i pins s σ H E I hf st hg
    subst hP hw hK
    obtain ⟨f0,f1,f2,f3,f4,f5⟩ := hf it (by simp)
    have W := Walks.range (prog := X.prog) (w := X.w) (I.ok.hd hc) it lo 1 n
    refine W.item i s _ _ hg st fun v h' tk hv st' kk => ?_
    obtain ⟨t,rfl⟩ := hv
    have I1:Inv X pins σ H { s with heap := h',toks := tk } := I.turned (fun b o hb e => kk b o (by simpa using hb) e) f0 f1 f3 f4 f5
    refine ⟨_,rfl,Jzu (s := { s with heap := h',toks := tk }) (n := "range_iterator") st' rfl rfl (by decide) ⟨.int (lo + i),H,I1,⟨t,?_⟩,⟨rfl,rfl⟩,st',fun b hb => (hf b hb).1⟩⟩
    rw [Int.mul_one]
  done := by
    intro X hP hw hK hc i pins s σ H E I hf st hg
    subst hP hw hK
    obtain ⟨f0,f1,f2,f3,f4,f5⟩ := hf it (by simp)
    exact wpAny_pyNext_range_end (I.ok.hd hc) st (by have:n ≤ i := hg; omega) fun h' eb => ⟨rfl,I.turned (t' := s.toks) (fun b o hb e => eb b o hb e) f0 f1 f3 f4 f5⟩
  self := fun _ _ _ _ _ st h => wpAny_pyIter_rangeiter st h
end L2

namespace L2
open PySem PySem.Spec PyProof.Rows
section
variable {X:Cx} {tg:Expr}
theorem Ju4 {pins:List (Addr × Obj)} {σ:St} {H:Hp} {s:Shared} {R:It → Hp → Prop} {E:Value → Shared → Prop} {lo hi:Int} {t u v:Tok} {tk:Nat} (I:Inv X pins σ H s) (h1:-(2 ^ 62) ≤ lo) (h2:lo < 2 ^ 62) (h3:-(2 ^ 62) ≤ hi) (h4:hi < 2 ^ 62)
    (q:R (Itr lo (hi - lo).toNat) H):wpAny (model X.prog X.w) X.A (pyIter (.ref s.heap.objs.size)) (PIE X pins σ tg R) E { s with heap := s.heap.push { cls := .type "range",data := .fields #[.int lo t,.int hi u,.int 1 v] },toks := tk } := by
  refine wpAny_pyIter_range (IsRange.new ..) (small_one h1 h2 h3 h4) ?_
  have I1:Inv X pins σ H { s with heap := s.heap.push { cls := .type "range",data := .fields #[.int lo t,.int hi u,.int 1 v] },toks := tk } := I.kept fun b o e => Heap.get?_push_of_some _ e
  refine ⟨(s.heap.push { cls := .type "range",data := .fields #[.int lo t,.int hi u,.int 1 v] }).objs.size,[(s.heap.push { cls := .type "range",data := .fields #[.int lo t,.int hi u,.int 1 v] }).objs.size],_,_,H,rfl,
    I1.kept (t' := tk) fun b o e => Heap.get?_push_of_some _ e,Jrb _ lo (hi - lo).toNat,?_,fun b hb => ?_,q⟩
  · have e1:lo + ((0:Nat):Int) * 1 = lo := by simp
    have e2:(((hi - lo).toNat:Nat):Int) - ((0:Nat):Int) = Builtin.Range.rangeSize lo hi 1 := by rw [rangeSize_one]; split <;> omega
    show IsRangeIter _ _ (lo + ((0:Nat):Int) * 1) ((((hi - lo).toNat:Nat):Int) - ((0:Nat):Int)) 1
    rw [e1,e2]
    exact Heap.get?_push_size _ rfl
  · have e:b = (s.heap.push { cls := .type "range",data := .fields #[.int lo t,.int hi u,.int 1 v] }).objs.size := by simpa using hb
    subst e
    exact I1.fpOk (Nat.le_refl _) (I1.hok.fresh (Nat.le_refl _))
def JD2 (ta:TA):TI := fun σ H R => ta σ H fun vs H1 => ∃ j:Int,vs = [.int j] ∧ -(2 ^ 62) ≤ j ∧ j < 2 ^ 62 ∧ R (Itr 0 j.toNat) H1
theorem Jsx {a:Expr} {ta:TA} {p pos:Pos} (hg:Gl X "range") (hm:X.mg "range" = none) (ha:PA X [a] ta) (hs:starEach [a] X.env = [(false,eval a X.env)] := by rfl):PI X tg (.Call (.Name "range" p) [a] [] pos) (JD2 ta) := by
  intro pins s σ H R I h
  refine Call_ (Jli I hg hm boot_range (PyProof.Rows.callWith_type1 (thn (ha pos pins s σ H _ I h) fun us s1 ⟨vs,H1,I1,r1,q1⟩ => ?_) hs rfl))
  obtain ⟨j,e,q1,q2,q⟩ := q1
  subst e
  cases r1 with
  | cons r rr =>
    cases rr
    obtain ⟨t,rfl⟩ := r
    exact call_range_1 (Ju4 I1 (by omega) (by omega) q1 q2 (by simpa using q))
def tFor (wi:TI) (g:TG) (tb:TS):TS := fun D σ H => wi σ H fun J H1 => ∃ W:Nat → Nat → St → Hp → Prop,(∃ m,W 0 m σ H1) ∧ ∀ i m σ H,W i m σ H →
  (J.stop i H ∧ D.nx σ H) ∨ (J.go i H ∧ ∃ N:St → Hp → Prop,(∀ σ' H',N σ' H' → ∃ m',m' < m ∧ W (i + 1) m' σ' H') ∧ ∀ x H',J.yld i H x H' → g x σ H' fun σ2 H2 => tb { D with nx := N,ct := N,bk := D.nx } σ2 H2)
def Jjt (fp:List Addr) (h:Heap):List (Addr × Obj) := fp.filterMap fun b => (h.get? b).map fun o => (b,o)
theorem Jhl {fp:List Addr} {h:Heap} {b:Addr} {o:Obj} (hb:b ∈ fp) (e:h.get? b = some o):(b,o) ∈ Jjt fp h := List.mem_filterMap.mpr ⟨b,hb,by rw [e]; rfl⟩
theorem Jnm {fp:List Addr} {h:Heap} {p:Addr × Obj} (hp:p ∈ Jjt fp h):p.1 ∈ fp ∧ h.get? p.1 = some p.2 := by
  obtain ⟨b,hb,e⟩ := List.mem_filterMap.mp hp
  cases q:h.get? b with
  | none => rw [q] at e; cases e
  | some o =>
    rw [q] at e
    have e':(b,o) = p := Option.some.inj e
    subst e'
    exact ⟨hb,q⟩
theorem Inv.pinned {pins:List (Addr × Obj)} {σ:St} {H:Hp} {s:Shared} {fp:List Addr} (I:Inv X pins σ H s) (hf:∀ b ∈ fp,FpOk X pins H b) (ho:∀ b ∈ fp,∃ o,s.heap.get? b = some o ∧ ∀ v,o.data ≠ .cell v):Inv X (pins ++ Jjt fp s.heap) σ H s :=
  I.Jl4 fun p hp => (List.mem_append.mp hp).elim (fun z => I.pin p (List.mem_append_right _ z)) fun z => by
    obtain ⟨hb,e⟩ := Jnm z
    obtain ⟨f0,f1,f2,_⟩ := hf p.1 hb
    obtain ⟨o,e',d⟩ := ho p.1 hb
    rw [e] at e'; cases e'
    exact ⟨e,f0,f1,f2,d⟩
theorem Inv.Jj5 {pins pl:List (Addr × Obj)} {σ:St} {H:Hp} {s:Shared} (I:Inv X (pins ++ pl) σ H s):Inv X pins σ H s := I.Jl4 fun p hp => I.pin p (List.mem_append_right _ (List.mem_append_left _ hp))
theorem JA3 {iter:Expr} {body:List Stmt} {wi:TI} {g:TG} {tb:TS} {pos:Pos} (hp:PassesOwn (model X.prog X.w) X.A X.env X.xe) (hc:X.calm = true) (hi:PI X tg iter wi) (hg:PG X tg g) (hb:PSs X body tb)
    (hs:∀ x,foldedSetIterable iter X.env x = pure x := by intro _; rfl):PS X (.For tg iter body [] pos) (tFor wi g tb) := by
  intro pins s σ H D I h
  refine wpAny_For (thn (hi pins s σ H _ I h) fun v s1 h1 => thn h1 fun itv s2 h2 => ?_) hs
  obtain ⟨it,fp,tn,J,H2,e,I2,T,st2,f2,W,⟨m0,w0⟩,turn⟩ := h2
  subst e
  -- what stays true of the iterator's objects through the loop
  have stat:∀ {H':Hp},(∀ b ∈ fp,H' b = none) → ∀ b ∈ fp,FpOk X pins H' b := fun hn b hb => ⟨hn b hb,(f2 b hb).2⟩
  refine codeAny_forLoop_any (fun n s' => ∃ i σ' H',Inv X pins σ' H' s' ∧ tn i s'.heap ∧ (∀ b ∈ fp,H' b = none) ∧ W i n σ' H') ?_ m0 ⟨0,σ,H2,I2,st2,fun b hb => (f2 b hb).1,w0⟩
  rintro n s3 ⟨i,σ3,H3,I3,st3,fr3,w3⟩
  rcases turn i n σ3 H3 w3 with ⟨stop,qn⟩ | ⟨go,N,hN,step⟩
  · refine wpAny_passesOwn hp (thn (T.done X rfl rfl rfl hc i pins s3 σ3 H3 X.xe I3 (stat fr3) st3 stop) fun r s4 ⟨hr,I4⟩ => ?_)
    subst hr
    exact wpAny_execs_nil ⟨σ3,H3,I4,qn⟩
  · refine wpAny_passesOwn hp (thn (T.item X rfl rfl rfl hc i pins s3 σ3 H3 X.xe I3 (stat fr3) st3 go) fun r s4 ⟨u,hr,h4⟩ => ?_)
    subst hr
    refine wpAny_passesOwn hp (thn h4 fun _ s5 ⟨x,H5,I5,r5,y5,st5,fr5⟩ => ?_)
    have I5' := I5.pinned (stat fr5) (T.obj _ _ st5)
    refine wpAny_passesOwn hp (thn (hg _ s5 σ3 H5 x u _ I5' r5 (step x H5 y5)) fun _ s6 ⟨σ6,H6,I6,q6⟩ => ?_)
    refine wpAny_passesOwn hp (thn (hb _ s6 σ6 H6 _ I6 q6) fun f s7 q7 => ?_)
    have again:∀ {σ7:St} {H7:Hp},Inv X (pins ++ Jjt fp s5.heap) σ7 H7 s7 → N σ7 H7 → ∃ m,m < n ∧ ∃ i σ' H',Inv X pins σ' H' s7 ∧ tn i s7.heap ∧ (∀ b ∈ fp,H' b = none) ∧ W i m σ' H' := fun {σ7 H7} I7 n7 => by
      obtain ⟨m',hm,w7⟩ := hN σ7 H7 n7
      refine ⟨m',hm,i + 1,σ7,H7,I7.Jj5,T.keep _ _ _ st5 fun b hb o e => (I7.pin (b,o) (List.mem_append_right _ (List.mem_append_right _ (Jhl hb e)))).1,fun b hb => ?_,w7⟩
      obtain ⟨o,e,d⟩ := T.obj _ _ st5 b hb
      exact (I7.pin (b,o) (List.mem_append_right _ (List.mem_append_right _ (Jhl hb e)))).2.1
    cases f with
    | next => obtain ⟨σ7,H7,I7,n7⟩ := q7; exact again I7 n7
    | cont => obtain ⟨σ7,H7,I7,n7⟩ := q7; exact again I7 n7
    | brk => obtain ⟨σ7,H7,I7,q7⟩ := q7; exact ⟨σ7,H7,I7.Jj5,q7⟩
    | ret v => obtain ⟨x7,σ7,H7,I7,r7,q7⟩ := q7; exact ⟨x7,σ7,H7,I7.Jj5,r7,q7⟩
end

end L2

namespace L2
open PySem PySem.Spec PyProof.Rows

abbrev R2 := V → V → Hp → VK → Prop
def OpR (X:Cx) (f:Value → Value → Sem Value) (r:R2):Prop :=
  ∀ (pins:List (Addr × Obj)) (s:Shared) (σ:St) (H:Hp) (x y:V) (v u:Value) (Q:VK),Inv X pins σ H s → RelV x v → RelV y u → r x y H Q →
    wpAny (model X.prog X.w) X.A (f v u) (EP X pins σ Q) X.xe s
def UnR (X:Cx) (f:Value → Sem Value) (r:V → Hp → VK → Prop):Prop :=
  ∀ (pins:List (Addr × Obj)) (s:Shared) (σ:St) (H:Hp) (x:V) (v:Value) (Q:VK),Inv X pins σ H s → RelV x v → r x H Q →
    wpAny (model X.prog X.w) X.A (f v) (EP X pins σ Q) X.xe s
def Jd1 (X:Cx) (f:Value) (r:List V → Hp → VK → Prop):Prop :=
  ∀ (pins:List (Addr × Obj)) (s:Shared) (σ:St) (H:Hp) (xs:List V) (us:List Value) (Q:VK),Inv X pins σ H s → Vals xs us → r xs H Q →
    wpAny (model X.prog X.w) X.A (call f us) (EP X pins σ Q) X.xe s
def tOp (r:R2) (ta tb:TE):TE := fun σ H Q => ta σ H fun x H1 => tb σ H1 fun y H2 => r x y H2 Q
def tUn (r:V → Hp → VK → Prop) (ta:TE):TE := fun σ H Q => ta σ H fun x H1 => r x H1 Q
def rI (C:Int → Int → Prop) (g:Int → Int → V):R2 := fun x y H Q => ∃ i j,x = .int i ∧ y = .int j ∧ C i j ∧ Q (g i j) H
def rI0 (g:Int → Int → V):R2 := fun x y H Q => ∃ i j,x = .int i ∧ y = .int j ∧ Q (g i j) H
def rU (g:Int → V):V → Hp → VK → Prop := fun x H Q => ∃ i,x = .int i ∧ Q (g i) H

section
variable {X:Cx} {a b c:Expr} {ta tb tc:TE} {pos:Pos}

theorem binT (ha:PE X a ta) (hb:PE X b tb) {pins:List (Addr × Obj)} {s:Shared} {σ:St} {H:Hp} {R:V → V → Hp → Prop} (I:Inv X pins σ H s)
    (h:ta σ H fun x H1 => tb σ H1 fun y H2 => R x y H2) {Q:Value → Shared → Prop} {f:Value → Value → Sem Value}
    (hf:∀ v u s2 x y H2,Inv X pins σ H2 s2 → RelV x v → RelV y u → R x y H2 → wpAny (model X.prog X.w) X.A (f v u) Q X.xe s2) :
    wpAny (model X.prog X.w) X.A (eval a X.env) (fun v s₁ => wpAny (model X.prog X.w) X.A (eval b X.env) (fun u s₂ => wpAny (model X.prog X.w) X.A (f v u) Q X.xe s₂) X.xe s₁) X.xe s := by
  refine thn (ha pins s σ H _ I h) fun v s1 ⟨x,H1,I1,r1,q1⟩ => ?_
  refine thn (hb pins s1 σ H1 _ I1 q1) fun u s2 ⟨y,H2,I2,r2,q2⟩ => ?_
  exact hf v u s2 x y H2 I2 r1 r2 q2

theorem JDp {op:Operator} {r:R2} (ho:OpR X (binaryOp op) r) (ha:PE X a ta) (hb:PE X b tb):PE X (.BinOp a op b pos) (tOp r ta tb) := by
  intro pins s σ H Q I h
  exact wpAny_BinOp (binT ha hb I h fun v u s2 x y H2 I2 rx ry q => ho pins s2 σ H2 x y v u Q I2 rx ry q)
theorem JA8 {op:UnaryOp} {r:V → Hp → VK → Prop} (ho:UnR X (unaryOp op) r) (ha:PE X a ta):PE X (.UnaryOp op a pos) (tUn r ta) := by
  intro pins s σ H Q I h
  exact UnaryOp_ (thn (ha pins s σ H _ I h) fun v s1 ⟨x,H1,I1,r1,q1⟩ => ho pins s1 σ H1 x v Q I1 r1 q1)
theorem opI {f:Value → Value → Sem Value} {C:Int → Int → Prop} {g:Int → Int → Int}
    (rule:∀ (i j:Int) (t u:Tok) (s:Shared) (Q:Value → Shared → Prop) (E:Value → Shared → Prop),C i j → Q (.int (g i j) s.toks) { s with toks := s.toks + 1 } → wpAny (model X.prog X.w) X.A (f (.int i t) (.int j u)) Q E s) :
    OpR X f (rI C fun i j => .int (g i j)) := by
  intro pins s σ H x y v u Q I rx ry h
  obtain ⟨i,j,rfl,rfl,hc,q⟩ := h
  obtain ⟨t,rfl⟩ := rx
  obtain ⟨t',rfl⟩ := ry
  exact rule i j t t' s _ _ hc ⟨.int (g i j),H,I.tok _,⟨_,rfl⟩,q⟩
theorem opI0 {f:Value → Value → Sem Value} {g:Int → Int → Int}
    (rule:∀ (i j:Int) (t u:Tok) (s:Shared) (Q:Value → Shared → Prop) (E:Value → Shared → Prop),Q (.int (g i j) s.toks) { s with toks := s.toks + 1 } → wpAny (model X.prog X.w) X.A (f (.int i t) (.int j u)) Q E s) :
    OpR X f (rI0 fun i j => .int (g i j)) := by
  intro pins s σ H x y v u Q I rx ry h
  obtain ⟨i,j,rfl,rfl,q⟩ := h
  obtain ⟨t,rfl⟩ := rx
  obtain ⟨t',rfl⟩ := ry
  exact rule i j t t' s _ _ ⟨.int (g i j),H,I.tok _,⟨_,rfl⟩,q⟩
theorem opB0 {f:Value → Value → Sem Value} {g:Int → Int → Bool}
    (rule:∀ (i j:Int) (t u:Tok) (s:Shared) (Q:Value → Shared → Prop) (E:Value → Shared → Prop),Q (.bool (g i j)) s → wpAny (model X.prog X.w) X.A (f (.int i t) (.int j u)) Q E s) :
    OpR X f (rI0 fun i j => .bl (g i j)) := by
  intro pins s σ H x y v u Q I rx ry h
  obtain ⟨i,j,rfl,rfl,q⟩ := h
  obtain ⟨t,rfl⟩ := rx
  obtain ⟨t',rfl⟩ := ry
  exact rule i j t t' s _ _ ⟨.bl (g i j),H,I,rfl,q⟩

def CPow (i j:Int):Prop := 0 ≤ j ∧ j ≤ 1000000 ∧ i.natAbs < 2 ^ 64
def CMul (i j:Int):Prop := (-(2 ^ 64) < i ∧ i < 2 ^ 64) ∨ (-(2 ^ 64) < j ∧ j < 2 ^ 64)
theorem CMul.ok {i j:Int} (h:CMul i j):IntMulOk i j := by
  rcases h with ⟨h1,h2⟩ | ⟨h1,h2⟩
  · exact .of_left (intBits_le_64 h1 h2)
  · exact .of_right (intBits_le_64 h1 h2)
theorem JBm:OpR X (binaryOp .Add) (rI0 fun i j => .int (i + j)) := opI0 fun _ _ _ _ _ _ _ q => add_int q
theorem Jeb:OpR X (binaryOp .Sub) (rI0 fun i j => .int (i - j)) := opI0 fun _ _ _ _ _ _ _ q => sub_int q
theorem JBh:OpR X (binaryOp .Mult) (rI CMul fun i j => .int (i * j)) := opI fun _ _ _ _ _ _ _ hc q => mul_int q hc.ok
theorem Jkm:OpR X (binaryOp .Mod) (rI (fun _ j => 0 < j) fun i j => .int (i % j)) := opI fun i j _ _ _ _ _ hc q => by
  have h1:(0:Int) < j := hc
  exact mod_int' (by omega) (by rw [Int.fmod_eq_emod_of_nonneg i (by omega)]; exact q)
theorem Jfh:OpR X (binaryOp .Pow) (rI CPow fun i j => .int (i ^ j.toNat)) := opI fun _ _ _ _ _ _ _ hc q => pow_int_small hc.1 hc.2.1 hc.2.2 q
theorem unI {f:Value → Sem Value} {g:Int → Int}
    (rule:∀ (i:Int) (t:Tok) (s:Shared) (Q:Value → Shared → Prop) (E:Value → Shared → Prop),Q (.int (g i) s.toks) { s with toks := s.toks + 1 } → wpAny (model X.prog X.w) X.A (f (.int i t)) Q E s) :
    UnR X f (rU fun i => .int (g i)) := by
  intro pins s σ H x v Q I rx h
  obtain ⟨i,rfl,q⟩ := h
  obtain ⟨t,rfl⟩ := rx
  exact rule i t s _ _ ⟨.int (g i),H,I.tok _,⟨_,rfl⟩,q⟩
theorem Jpy:UnR X (unaryOp .USub) (rU fun i => .int (-i)) := unI fun _ _ _ _ _ q => neg_int q
end

def scal:V → V → Bool
  | .non,.non => true | .non,.int _ => true | .int _,.non => true | .non,.bl _ => true | .bl _,.non => true | .non,.str _ => true | .str _,.non => true
  | .int _,.int _ => true | .bl _,.bl _ => true | .str _,.str _ => true | .byt _,.byt _ => true
  | .int _,.str _ => true | .str _,.int _ => true | .bl _,.str _ => true | .str _,.bl _ => true
  | _,_ => false
def rEq:R2 := fun x y H Q => scal x y = true ∧ Q (.bl (decide (x = y))) H
def rNe:R2 := fun x y H Q => scal x y = true ∧ Q (.bl (!decide (x = y))) H

theorem Jt2 {i j:Int}:decide (V.int i = V.int j) = (i == j) := by
  rw [Bool.eq_iff_iff]
  simp
theorem Jxo {i j:Bool}:decide (V.bl i = V.bl j) = (i == j) := by
  rw [Bool.eq_iff_iff]
  simp
theorem Jt1 {i j:Str}:decide (V.str i = V.str j) = (i == j) := by
  rw [Bool.eq_iff_iff]
  simp
theorem Jt3 {i j:Array UInt8}:decide (V.byt i = V.byt j) = (i.toList == j.toList) := by
  rw [Bool.eq_iff_iff]
  cases i
  cases j
  simp

section
variable {X:Cx} {a b c:Expr} {ta tb tc:TE} {pos:Pos}
theorem Jcs {pins:List (Addr × Obj)} {σ:St} {H:Hp} {s:Shared} {Q:VK} {k k':Bool} (I:Inv X pins σ H s) (q:Q (.bl k) H) (e:k = k'):EP X pins σ Q (.bool k') s := by
  subst e
  exact ⟨.bl k,H,I,rfl,q⟩
theorem JDv:OpR X (compareOp .Eq) rEq := by
  intro pins s σ H x y v u Q I rx ry h
  obtain ⟨hs,q⟩ := h
  cases x with
  | non =>
    cases rx
    cases y with
    | non => cases ry; exact PySem.EqNone.eq_none_none (Jcs I q (by simp))
    | bl j => cases ry; exact PySem.EqNone.eq_none_bool (Jcs I q (by simp))
    | int j => obtain ⟨t',rfl⟩ := ry; exact PySem.EqNone.eq_none_int (Jcs I q (by simp))
    | str j => obtain ⟨t',rfl⟩ := ry; exact PySem.EqNone.eq_none_str (Jcs I q (by simp))
    | _ => exact absurd (show false = true from hs) Bool.false_ne_true
  | bl i =>
    cases rx
    cases y with
    | non => cases ry; exact PySem.EqNone.eq_bool_none (Jcs I q (by simp))
    | bl j => cases ry; exact eq_bool (Jcs I q Jxo)
    | str j => obtain ⟨t',rfl⟩ := ry; exact PySem.EqMixed.eq_bool_str (Jcs I q (by simp))
    | _ => exact absurd (show false = true from hs) Bool.false_ne_true
  | int i =>
    obtain ⟨t,rfl⟩ := rx
    cases y with
    | non => cases ry; exact PySem.EqNone.eq_int_none (Jcs I q (by simp))
    | int j => obtain ⟨t',rfl⟩ := ry; exact eq_int (Jcs I q Jt2)
    | str j => obtain ⟨t',rfl⟩ := ry; exact PySem.EqMixed.eq_int_str (Jcs I q (by simp))
    | _ => exact absurd (show false = true from hs) Bool.false_ne_true
  | str i =>
    obtain ⟨t,rfl⟩ := rx
    cases y with
    | non => cases ry; exact PySem.EqNone.eq_str_none (Jcs I q (by simp))
    | bl j => cases ry; exact PySem.EqMixed.eq_str_bool (Jcs I q (by simp))
    | int j => obtain ⟨t',rfl⟩ := ry; exact PySem.EqMixed.eq_str_int (Jcs I q (by simp))
    | str j => obtain ⟨t',rfl⟩ := ry; exact eq_str (Jcs I q Jt1)
    | _ => exact absurd (show false = true from hs) Bool.false_ne_true
  | byt i =>
    obtain ⟨t,rfl⟩ := rx
    cases y with
    | byt j => obtain ⟨t',rfl⟩ := ry; exact PySem.W.eq_bytes (Jcs I q Jt3)
    | _ => exact absurd (show false = true from hs) Bool.false_ne_true
  | _ => cases y <;> exact absurd (show false = true from hs) Bool.false_ne_true
theorem JDu:OpR X (compareOp .NotEq) rNe := by
  intro pins s σ H x y v u Q I rx ry h
  obtain ⟨hs,q⟩ := h
  cases x with
  | non =>
    cases rx
    cases y with
    | non => cases ry; exact PySem.EqNone.ne_none_none (Jcs I q (by simp))
    | bl j => cases ry; exact PySem.EqNone.ne_none_bool (Jcs I q (by simp))
    | int j => obtain ⟨t',rfl⟩ := ry; exact PySem.EqNone.ne_none_int (Jcs I q (by simp))
    | str j => obtain ⟨t',rfl⟩ := ry; exact PySem.EqNone.ne_none_str (Jcs I q (by simp))
    | _ => exact absurd (show false = true from hs) Bool.false_ne_true
  | bl i =>
    cases rx
    cases y with
    | non => cases ry; exact PySem.EqNone.ne_bool_none (Jcs I q (by simp))
    | bl j => cases ry; exact ne_bool (Jcs I q (congrArg not Jxo))
    | str j => obtain ⟨t',rfl⟩ := ry; exact PySem.EqMixed.ne_bool_str (Jcs I q (by simp))
    | _ => exact absurd (show false = true from hs) Bool.false_ne_true
  | int i =>
    obtain ⟨t,rfl⟩ := rx
    cases y with
    | non => cases ry; exact PySem.EqNone.ne_int_none (Jcs I q (by simp))
    | int j => obtain ⟨t',rfl⟩ := ry; exact ne_int (Jcs I q (congrArg not Jt2))
    | str j => obtain ⟨t',rfl⟩ := ry; exact PySem.EqMixed.ne_int_str (Jcs I q (by simp))
    | _ => exact absurd (show false = true from hs) Bool.false_ne_true
  | str i =>
    obtain ⟨t,rfl⟩ := rx
    cases y with
    | non => cases ry; exact PySem.EqNone.ne_str_none (Jcs I q (by simp))
    | bl j => cases ry; exact PySem.EqMixed.ne_str_bool (Jcs I q (by simp))
    | int j => obtain ⟨t',rfl⟩ := ry; exact PySem.EqMixed.ne_str_int (Jcs I q (by simp))
    | str j => obtain ⟨t',rfl⟩ := ry; exact ne_str (Jcs I q (congrArg not Jt1))
    | _ => exact absurd (show false = true from hs) Bool.false_ne_true
  | byt i =>
    obtain ⟨t,rfl⟩ := rx
    cases y with
    | byt j => obtain ⟨t',rfl⟩ := ry; exact PySem.W.ne_bytes (Jcs I q (congrArg not Jt3))
    | _ => exact absurd (show false = true from hs) Bool.false_ne_true
  | _ => cases y <;> exact absurd (show false = true from hs) Bool.false_ne_true

theorem Jrj:OpR X (compareOp .Lt) (rI0 fun i j => .bl (decide (i < j))) := opB0 fun _ _ _ _ _ _ _ q => lt_int q
theorem Jvd:OpR X (compareOp .LtE) (rI0 fun i j => .bl (decide (i ≤ j))) := opB0 fun _ _ _ _ _ _ _ q => le_int q
theorem Jvg:OpR X (compareOp .Gt) (rI0 fun i j => .bl (decide (j < i))) := opB0 fun _ _ _ _ _ _ _ q => gt_int q
theorem Jyx:OpR X (compareOp .GtE) (rI0 fun i j => .bl (decide (j ≤ i))) := opB0 fun _ _ _ _ _ _ _ q => ge_int q
theorem JBi:OpR X (compareOp .Is) (fun x y H Q => y = .non ∧ Q (.bl (decide (x = .non))) H) := by
  intro pins s σ H x y v u Q I rx ry h
  obtain ⟨rfl,q⟩ := h
  cases ry
  refine is_none_gen (Jcs I q ?_)
  cases x <;> first
    | (cases rx; rfl)
    | (obtain ⟨t,rfl⟩ := rx; rfl)
theorem OpR.or {f:Value → Value → Sem Value} {r r':R2} (h:OpR X f r) (h':OpR X f r'):OpR X f (fun x y H Q => r x y H Q ∨ r' x y H Q) := by
  intro pins s σ H x y v u Q I rx ry q
  rcases q with q | q
  · exact h pins s σ H x y v u Q I rx ry q
  · exact h' pins s σ H x y v u Q I rx ry q

theorem Jb8 (b:Expr) {op:CmpOp} (h:op ≠ .In := by decide) (h2:op ≠ .NotIn := by decide):behindInMarks op b = false := by
  have e1:(op == CmpOp.In) = false := by cases op <;> first | rfl | exact absurd rfl h
  have e2:(op == CmpOp.NotIn) = false := by cases op <;> first | rfl | exact absurd rfl h2
  cases b <;> simp [behindInMarks,e1,e2]
theorem Js0 {op:CmpOp} {r:R2} (ho:OpR X (compareOp op) r) (ha:PE X a ta) (hb:PE X b tb) (hm:behindInMarks op b = false):PE X (.Compare a [op] [b] pos) (tOp r ta tb) := by
  intro pins s σ H Q I h
  exact wpAny_Compare1 (binT ha hb I h fun v u s2 x y H2 I2 rx ry q => ho pins s2 σ H2 x y v u Q I2 rx ry q) hm
def JAh (t:TE):TT := fun σ H Q => t σ H fun x H' => ∃ k,x = .bl k ∧ Q k H'
theorem Jyj {op:CmpOp} {r:R2} (ho:OpR X (compareOp op) r) (ha:PE X a ta) (hb:PE X b tb) (hm:behindInMarks op b = false):PT X (.Compare a [op] [b] pos) (JAh (tOp r ta tb)) := by
  intro pins s σ H Q I h
  refine wpAny_isTrue_Compare1 (thn (ha pins s σ H _ I h) fun v s1 ⟨x,H1,I1,r1,q1⟩ => thn (hb pins s1 σ H1 _ I1 q1) fun u s2 ⟨y,H2,I2,r2,q2⟩ =>
    thn (ho pins s2 σ H2 x y v u _ I2 r1 r2 q2) fun c s3 ⟨z,H3,I3,r3,k,e,q3⟩ => ?_) hm
  subst e
  cases r3
  exact wpAny_truthy_bool ⟨H3,I3,q3⟩
def Jww (r r':R2) (ta tb tc:TE):TE := fun σ H Q => ta σ H fun x H1 => tb σ H1 fun y H2 => r x y H2 fun z H3 => ∃ k,z = .bl k ∧
  (if k = true then tc σ H3 fun w' H4 => r' y w' H4 Q else Q (.bl false) H3)
theorem Jvc {op op':CmpOp} {r r':R2} (ho:OpR X (compareOp op) r) (ho':OpR X (compareOp op') r') (ha:PE X a ta) (hb:PE X b tb) (hc:PE X c tc)
    (hm:lastMarks [op,op'] [b,c] = false := by with_unfolding_all rfl):PE X (.Compare a [op,op'] [b,c] pos) (Jww r r' ta tb tc) := by
  intro pins s σ H Q I h
  refine Compare_chain (thn (ha pins s σ H _ I h) fun v s1 ⟨x,H1,I1,r1,q1⟩ => chain_link (thn (hb pins s1 σ H1 _ I1 q1) fun u s2 ⟨y,H2,I2,r2,q2⟩ =>
    thn (ho pins s2 σ H2 x y v u _ I2 r1 r2 q2) fun d s3 ⟨z,H3,I3,r3,k,e,q3⟩ => ?_)) hm
  subst e
  cases r3
  refine wpAny_truthy_bool ?_
  cases k with
  | false => exact ite_ff ⟨.bl false,H3,I3,rfl,q3⟩
  | true => exact ite_tt (chain_last (thn (hc pins s3 σ H3 _ I3 q3) fun w' s4 ⟨z',H4,I4,r4,q4⟩ => ho' pins s4 σ H4 y z' u w' Q I4 r2 r4 q4))
theorem Jnq:(sizeLine:Nat) < 2 ^ 63 := by rw [sizeLine_eq]; decide
theorem Jrk:OpR X (binaryOp .Add) (fun x y H Q => ∃ i j,x = .str i ∧ y = .str j ∧ i.length + j.length ≤ sizeLine ∧ Q (.str (i ++ j)) H) := by
  intro pins s σ H x y v u Q I rx ry h
  obtain ⟨i,j,rfl,rfl,hz,q⟩ := h
  obtain ⟨t,rfl⟩ := rx
  obtain ⟨t',rfl⟩ := ry
  exact add_str (fun t' tk => ⟨.str (i ++ j),H,I.tok _,⟨_,rfl⟩,q⟩) hz
theorem vals1 {x:V} {us:List Value} (r:Vals [x] us):∃ u,us = [u] ∧ RelV x u := by
  cases r with
  | cons r1 r2 => cases r2; exact ⟨_,rfl,r1⟩
theorem vals2 {x y:V} {us:List Value} (r:Vals [x,y] us):∃ u w',us = [u,w'] ∧ RelV x u ∧ RelV y w' := by
  cases r with
  | cons r1 r2 =>
    cases r2 with
    | cons r3 r4 => cases r4; exact ⟨_,_,rfl,r1,r3⟩
theorem Jq8:Jd1 X (.builtin "abs") (fun xs H Q => ∃ i,xs = [.int i] ∧ Q (.int (if i < 0 then -i else i)) H) := by
  intro pins s σ H xs us Q I r h
  obtain ⟨i,rfl,q⟩ := h
  obtain ⟨u,rfl,t,rfl⟩ := vals1 r
  exact call_abs_int fun u tk => ⟨.int (if i < 0 then -i else i),H,I.tok _,⟨_,rfl⟩,q⟩
theorem Jga (hc:X.calm = true):Jd1 X (.builtin "max") (fun xs H Q => ∃ i j,xs = [.int i,.int j] ∧ Q (.int (if j > i then j else i)) H) := by
  intro pins s σ H xs us Q I r h
  obtain ⟨i,j,rfl,q⟩ := h
  obtain ⟨u,w',rfl,⟨t,rfl⟩,⟨t',rfl⟩⟩ := vals2 r
  refine max_two_ints (I.ok.hd hc) fun h' tk k => ⟨_,H,I.kept k,?_,q⟩
  by_cases hj:j > i
  · rw [if_pos hj,if_pos hj]; exact ⟨_,rfl⟩
  · rw [if_neg hj,if_neg hj]; exact ⟨_,rfl⟩
theorem Ji4 (hc:X.calm = true):Jd1 X (.builtin "min") (fun xs H Q => ∃ i j,xs = [.int i,.int j] ∧ Q (.int (if j < i then j else i)) H) := by
  intro pins s σ H xs us Q I r h
  obtain ⟨i,j,rfl,q⟩ := h
  obtain ⟨u,w',rfl,⟨t,rfl⟩,⟨t',rfl⟩⟩ := vals2 r
  refine min_two_ints (I.ok.hd hc) fun h' tk k => ⟨_,H,I.kept k,?_,q⟩
  by_cases hj:j < i
  · rw [if_pos hj,if_pos hj]; exact ⟨_,rfl⟩
  · rw [if_neg hj,if_neg hj]; exact ⟨_,rfl⟩
theorem Jub:Jd1 X (.type "int") (fun xs H Q => (∃ i,xs = [.int i] ∧ Q (.int i) H) ∨ ∃ k,xs = [.bl k] ∧ Q (.int (if k then 1 else 0)) H) := by
  intro pins s σ H xs us Q I r h
  rcases h with ⟨i,rfl,q⟩ | ⟨k,rfl,q⟩
  · obtain ⟨u,rfl,t,rfl⟩ := vals1 r
    exact call_int_int ⟨.int i,H,I,⟨_,rfl⟩,q⟩
  · obtain ⟨u,rfl,r1⟩ := vals1 r
    cases r1
    exact call_int_bool ⟨.int (if k then 1 else 0),H,I.tok _,⟨_,rfl⟩,q⟩
end
end L2

namespace L2
open PySem PySem.Spec PyProof.Rows

structure ObjM (h:Heap) (x dx C:Addr) (mA:Str → Option Value):Prop where
  obj:h.get? x = some (PySem.W.instObj C dx)
  ns:h.Ns1 dx mA
  ne:dx ≠ x

theorem Jtd {h:Heap} {dx:Addr} {mA:Str → Option Value} (n:h.Ns1 dx mA):∃ od,h.get? dx = some od ∧ ∀ name,PySem.W.lookIn name od = some (mA name) := by
  obtain ⟨o,es,ep,ho,hd,hk,_,hm⟩ := n
  refine ⟨o,ho,fun name => ?_⟩
  have e := hm name
  unfold nsFind findBy at e
  rw [← Array.find?_toList] at e
  unfold PySem.W.lookIn
  rw [hd]
  dsimp only
  split
  · rename_i y q
    rw [q] at e
    exact congrArg some e
  · rename_i q
    rw [q] at e
    have a:es.toList.any (·.refKey) = false := by
      rw [List.any_eq_false]
      intro y hy
      obtain ⟨z,t,hkey⟩ := hk y (Array.mem_toList_iff.mp hy)
      simp [DictEntry.refKey,hkey]
    have a':¬ es.toList.any (·.refKey) = true := by rw [a]; exact Bool.false_ne_true
    rw [if_neg a']
    exact congrArg some e

theorem ObjM.look {h:Heap} {x dx C:Addr} {mA:Str → Option Value} (I:ObjM h x dx C mA):∃ od,PySem.W.InstAt h x (PySem.W.instObj C dx) C (some od) ∧ ∀ name,PySem.W.lookIn name od = some (mA name) :=
  let ⟨od,ho,hl⟩ := Jtd I.ns
  ⟨od,⟨I.obj,rfl,rfl,ho⟩,hl⟩

section
variable {prog:Program} {w:World} {A:Around} {E:Value → Shared → Prop} {s:Shared} {K:PySem.W.Frag} {x dx C f:Addr} {mA:Str → Option Value} {name:Str} {v:Value}

end

section
variable {P:Program} {w:World} {H H':Hp} {h h':Heap} {a C dx:Addr} {fs fs':List (Str × V)}
theorem Jzo (hok:HOk P w H h) (e:H a = some (.ins C dx fs)):∃ mA,ObjM h a dx C mA ∧ (∀ f,RelO (fs.lookup f) (mA f)) ∧ PySem.Within mA (fs.map (·.1)) ∧ fs.length ≤ 1000 ∧ H dx = some (.own a) := by
  obtain ⟨d,z,ne,ob,mA,n,r,q⟩ := (show Jek P w H h a (.ins C dx fs) from hok a _ e)
  exact ⟨mA,⟨ob,n,ne⟩,r,q,z,d⟩
end

structure Cls (K:PySem.W.Frag) (C:Addr):Prop where
  pg:PySem.W.plainGet K C Str.empty = true
  hd:PySem.W.hasDictIn K C = true
  po:PySem.W.plainOver K C = true
  sa:PySem.W.findIn K (.ref C) "__setattr__" = some (some (.builtin "object.__setattr__"))
theorem Cls.get {K:PySem.W.Frag} {C:Addr} (c:Cls K C) (f:Str):PySem.W.plainGet K C f = true := c.pg

structure Con (K:PySem.W.Frag) (C:Addr) (f:Str) (v:V) (u:Value):Prop where
  at_:PySem.W.findIn K (.ref C) f = some (some u)
  rel:RelV v u
  get:PySem.W.specialIn K u "__get__" = some none
  cp:PySem.W.copiedNames.contains f = false

structure Meth (K:PySem.W.Frag) (C:Addr) (m:Str) (f:Addr):Prop where
  at_:PySem.W.findIn K (.ref C) m = some (some (.ref f))
  fn:PySem.W.isFn K (.ref f) = true
  kp:PySem.W.keepIn K (.ref f) = true

section
variable {X:Cx} {pins:List (Addr × Obj)} {σ:St} {H:Hp} {s:Shared} {a C dx:Addr} {fs:List (Str × V)} {f:Str} {v:V} {A:Around} {E:Value → Shared → Prop}

theorem Inv.made (I:Inv X pins σ H s):Inv X pins σ (upd (upd H s.heap.objs.size (.own (s.heap.objs.size + 1))) (s.heap.objs.size + 1) (.ins C s.heap.objs.size []))
    { s with heap := (s.heap.push PySem.W.emptyDict).push (PySem.W.instObj C s.heap.objs.size) } := by
  have e1:(s.heap.push PySem.W.emptyDict).get? s.heap.objs.size = some PySem.W.emptyDict := Heap.get?_push_size s.heap rfl
  have e2:((s.heap.push PySem.W.emptyDict).push (PySem.W.instObj C s.heap.objs.size)).get? (s.heap.objs.size + 1) = some (PySem.W.instObj C s.heap.objs.size) := by
    have := Heap.get?_push_size (s.heap.push PySem.W.emptyDict) (o := PySem.W.instObj C s.heap.objs.size) rfl
    rwa [Heap.size_push] at this
  have e3:(s.heap.push PySem.W.emptyDict).Ns s.heap.objs.size (fun _ => none) := ⟨PySem.W.emptyDict,#[],_,e1,rfl,(fun e he => absurd he (by simp)),fun _ => rfl⟩
  have I1 := I.laid (a := s.heap.objs.size) (o := .own (s.heap.objs.size + 1)) (h' := s.heap.push PySem.W.emptyDict) (t' := s.toks) (fun b u q => Heap.get?_push_of_some _ q) (Nat.le_refl _) ⟨_,e1⟩
  refine I1.laid (a := s.heap.objs.size + 1) (o := .ins C s.heap.objs.size []) (t' := s.toks) (fun b u q => Heap.get?_push_of_some _ q) (Nat.le_of_eq (Heap.size_push _ _)) ?_
  have ne:s.heap.objs.size ≠ s.heap.objs.size + 1 := Nat.ne_of_lt (Nat.lt_succ_self _)
  refine ⟨by rw [Jbg ne,Jbj],Nat.zero_le _,ne,e2,fun _ => none,(Heap.Ns1.of_empty e3).at fun o q => Heap.get?_push_of_some _ q,fun _ => True.intro,fun y hy => absurd rfl hy⟩

end

section
variable {X:Cx} {o e value:Expr} {f:Str} {pos pos' tpos:Pos} {ta tv:TE}
end

section
variable {X:Cx} {pins:List (Addr × Obj)} {σ:St} {H:Hp} {s:Shared} {A:Around} {E:Value → Shared → Prop} {Q:Value → Shared → Prop} {c:Value} {b:Bool}

inductive TyOf (K:PySem.W.Frag) (H:Hp):V → Value → Prop where
  | non:TyOf K H .non (.type "NoneType")
  | bl (x:Bool):TyOf K H (.bl x) (.type "bool")
  | int (i:Int):TyOf K H (.int i) (.type "int")
  | str (x:Str):TyOf K H (.str x) (.type "str")
  | flt (x:UInt64):TyOf K H (.flt x) (.type "float")
  | lst {a:Addr} {xs:List V} (e:H a = some (.lst xs)):TyOf K H (.ref a) (.type "list")
  | frz {a:Addr} {o:Obj} {xs:List V} (e:H a = some (.frz o (.lst xs))):TyOf K H (.ref a) (.type "list")
  | tup {a:Addr} {xs:List V} (e:H a = some (.tup xs)):TyOf K H (.ref a) (.type "tuple")
  | dK {a:Addr} {kvs:List (Key × V)} (e:H a = some (.dK kvs)):TyOf K H (.ref a) (.type "dict")
  | dT {a:Addr} {kvs:List (List Key × V)} (e:H a = some (.dT kvs)):TyOf K H (.ref a) (.type "dict")
  | ins {a C dx:Addr} {fs:List (Str × V)} (e:H a = some (.ins C dx fs)) (cl:Cls K C) (ha:PySem.W.findIn K (.ref C) "__class__" = some (some (.builtin "object.__class__")))
      (hn:PySem.W.specialIn K (.builtin "object.__class__") "__get__" = some (some (.builtin "getset_descriptor.__get__"))) (htk:PySem.W.takesIn K (.builtin "object.__class__") = some true)
      (hm:PySem.W.mroIn K C (.type "object") = some true):TyOf K H (.ref a) (.ref C)
theorem Jtm {x:V} {u t:Value} (I:Inv X pins σ H s) (rx:RelV x u) (ty:TyOf X.K H x t) (e:PySem.W.kitOne X.K t c = some b) (h:∀ tk,Q (.bool b) { s with toks := tk }) :
    wpAny (model X.prog X.w) A (call (.builtin "isinstance") [u,c]) Q E s := by
  cases ty with
  | non => cases (show u = Value.none from rx); exact PySem.W.kia_one PySem.W.kitx_none I.kIn True.intro e (fun z => nomatch z) h
  | bl y => cases (show u = Value.bool y from rx); exact PySem.W.kia_one PySem.W.kitx_bool I.kIn True.intro e (fun z => nomatch z) h
  | int i => obtain ⟨t,q⟩ := (show ∃ t,u = Value.int i t from rx); cases q; exact PySem.W.kia_one PySem.W.kitx_int I.kIn True.intro e (fun z => nomatch z) h
  | str y => obtain ⟨t,q⟩ := (show ∃ t,u = Value.str y t from rx); cases q; exact PySem.W.kia_one PySem.W.kitx_str I.kIn True.intro e (fun z => nomatch z) h
  | flt y => obtain ⟨t,q⟩ := (show ∃ t,u = Value.float y t from rx); cases q; exact PySem.W.kia_one PySem.W.kitx_float I.kIn True.intro e (fun z => nomatch z) h
  | @lst a xs ea =>
    cases (show u = Value.ref a from rx)
    obtain ⟨_,_,n,_,h1⟩ := (show Jek X.prog X.w H s.heap a (.lst xs) from I.hok a _ ea)
    exact PySem.W.kia_one PySem.W.kitx_list I.kIn ⟨_,h1,rfl⟩ e (fun z => nomatch z) h
  | @frz a ob xs ea =>
    cases (show u = Value.ref a from rx)
    obtain ⟨_,_,_,n,_,h1⟩ := (show Jek X.prog X.w H s.heap a (.frz ob (.lst xs)) from I.hok a _ ea)
    exact PySem.W.kia_one PySem.W.kitx_list I.kIn ⟨_,h1,rfl⟩ e (fun z => nomatch z) h
  | @tup a xs ea =>
    cases (show u = Value.ref a from rx)
    obtain ⟨_,_,_,p⟩ := (show Jek X.prog X.w H s.heap a (.tup xs) from I.hok a _ ea)
    obtain ⟨o,h1,h2,_⟩ := p
    exact PySem.W.kia_one PySem.W.kitx_tuple I.kIn ⟨o,h1,h2⟩ e (fun z => nomatch z) h
  | @dK a kvs ea =>
    cases (show u = Value.ref a from rx)
    obtain ⟨_,_,vs,_,p⟩ := (show Jek X.prog X.w H s.heap a (.dK kvs) from I.hok a _ ea)
    obtain ⟨o,es,ep,h1,h2,_⟩ := p
    exact PySem.W.kia_one PySem.W.kitx_dict I.kIn ⟨o,h1,h2.1⟩ e (fun z => nomatch z) h
  | @dT a kvs ea =>
    cases (show u = Value.ref a from rx)
    obtain ⟨_,_,xs,_,o,es,ep,h1,h2,_⟩ := (show Jek X.prog X.w H s.heap a (.dT kvs) from I.hok a _ ea)
    exact PySem.W.kia_one PySem.W.kitx_dict I.kIn ⟨o,h1,h2.1⟩ e (fun z => nomatch z) h
  | @ins a C dx fs ea cl ha hn htk hm =>
    cases (show u = Value.ref a from rx)
    obtain ⟨mA,O,_⟩ := Jzo I.hok ea
    obtain ⟨od,J,_⟩ := O.look
    exact PySem.W.kia_one (PySem.W.kitx_own (cl.get _) cl.hd ha hn htk hm) I.kIn J e (fun z => nomatch z) h
end
end L2

namespace L2
open PySem PySem.Spec PyProof.Rows

structure Room (k:Nat) (A:Around):Prop where
  hd:A.handled = none
  dp:A.depth + 3 * k + 5 < recursionLimit
  un:A.units + 16 * k + 200 < cLine
  gd:A.guards = some []
theorem Room.mono {j k:Nat} {A:Around} (r:Room k A) (h:j ≤ k):Room j A := ⟨r.hd,by have := r.dp; omega,by have := r.un; omega,r.gd⟩
theorem Room.deeper {k:Nat} {A:Around} (r:Room (k + 1) A) (env:Env):Room k (A.deeper env) :=
  ⟨r.hd,by have := r.dp; show A.depth + 1 + 3 * k + 5 < _; omega,by have := r.un; show A.units + 3 + 16 * k + 200 < _; omega,r.gd⟩
theorem Room.in1 {k:Nat} {A:Around} (r:Room (k + 1) A):Room k A.in1 :=
  ⟨r.hd,by have := r.dp; show A.depth + 3 * k + 5 < _; omega,by have := r.un; show A.units + 1 + 16 * k + 200 < _; omega,r.gd⟩
theorem Room.depth {k:Nat} {A:Around} (r:Room k A):A.depth < recursionLimit := by have := r.dp; omega
theorem Room.units {k:Nat} {A:Around} (r:Room k A):A.units + 64 < cLine := by have := r.un; omega
def tNil:TA := fun _ H Q => Q [] H
def JAj (ta:TE) (tr:TA):TA := fun σ H Q => ta σ H fun x H1 => tr σ H1 fun xs H2 => Q (x :: xs) H2
section
variable {X:Cx} {e:Expr} {es:List Expr} {te:TE} {t:TA} {pos:Pos}
theorem Jqj:PA X [] tNil := fun _ _ _ _ H Q I h => Calls.spliced_nil ⟨[],H,I,.nil,h⟩
theorem Jl6 (ha:PE X e te) (hr:PA X es t) (hs:starEach (e :: es) X.env = (false,eval e X.env) :: starEach es X.env := by rfl):PA X (e :: es) (JAj te t) := by
  intro pos pins s σ H Q I h
  rw [hs]
  show wpAny _ _ (spliced ((false,eval e X.env) :: backTo pos (starEach es X.env))) _ _ s
  refine Calls.spliced_cons (thn (ha pins s σ H _ I h) fun u s1 ⟨x,H1,I1,r1,q1⟩ => ?_)
  exact thn (hr pos pins s1 σ H1 _ I1 q1) fun us s2 ⟨xs,H2,I2,r2,q2⟩ => ⟨x :: xs,H2,I2,.cons r1 r2,q2⟩

def tTup (t:TA):TE := fun σ H Q => t σ H fun xs H1 => xs.length ≤ sizeLine ∧ ∀ p,H1 p = none → Q (.ref p) (upd H1 p (.tup xs))
def tLst (t:TA):TE := fun σ H Q => t σ H fun xs H1 => xs.length ≤ sizeLine ∧ ∀ p,H1 p = none → Q (.ref p) (upd H1 p (.lst xs))
theorem JA9 {x1} (h:PA X es t):PE X (.Tuple es x1 pos) (tTup t) := by
  intro pins s σ H Q I hq
  refine wpAny_Tuple_spliced (thn (h pos pins s σ H _ I hq) fun us s1 ⟨xs,H1,I1,r,z,q⟩ => ⟨by rw [← r.length]; exact z,?_⟩)
  have hf:H1 s1.heap.objs.size = none := I1.hok.fresh (Nat.le_refl _)
  refine ⟨.ref s1.heap.objs.size,upd H1 s1.heap.objs.size (.tup xs),I1.laid (t' := s1.toks) (fun b u e => Heap.get?_push_of_some _ e) (Nat.le_refl _) ?_,rfl,q _ hf⟩
  exact ⟨z,us,r,⟨_,Heap.get?_push_size _ rfl,rfl,_,rfl⟩⟩
theorem Jw0 (h:PA X es t):PE X (.List es pos) (tLst t) := by
  intro pins s σ H Q I hq
  refine wpAny_List_spliced (thn (h pos pins s σ H _ I hq) fun us s1 ⟨xs,H1,I1,r,z,q⟩ => ⟨by rw [← r.length]; exact z,?_⟩)
  have hf:H1 s1.heap.objs.size = none := I1.hok.fresh (Nat.le_refl _)
  refine ⟨.ref s1.heap.objs.size,upd H1 s1.heap.objs.size (.lst xs),I1.laid (t' := s1.toks) (fun b u e => Heap.get?_push_of_some _ e) (Nat.le_refl _) ?_,rfl,q _ hf⟩
  exact ⟨z,us,0,r,Heap.get?_push_size _ rfl⟩
end

abbrev Sp := List V → Hp → VK → XK → Prop
abbrev CXT := List Env → Hp → Shared → XK → Value → Shared → Prop


structure Env0 (P:Program) (w:World) (K:PySem.W.Frag) (mg:Str → Option Value) (base:Heap) (A:Around) (outer:List Env) (s:Shared) (H:Hp):Prop where
  frames:A.frames = some outer
  mod:Mod K mg base
  bs:∀ b o,base.get? b = some o → s.heap.get? b = some o ∧ H b = none
  bsz:base.objs.size ≤ s.heap.objs.size
  funs:s.heap.FunFrames base outer
  frf:∀ b ∈ frs outer,H b = none
  hok:HOk P w H s.heap
  bare:AllBare s.gens
  sy:H sysModules = none
def CE (outer:List Env) (P:Program) (w:World) (H:Hp) (s:Shared) (Q:VK) (u:Value) (s':Shared):Prop :=
  ∃ v H',s'.os = s.os ∧ AllBare s'.gens ∧ Un (frs outer) [] H H' s.heap s'.heap ∧ HOk P w H' s'.heap ∧ RelV v u ∧ Q v H'
def CR (CX:CXT) (outer:List Env) (P:Program) (w:World) (H:Hp) (s:Shared) (Q:VK) (E:XK) (r:Result) (s':Shared):Prop :=
  match r with
  | .ok (.ret u) => CE outer P w H s Q u s'
  | .ok _ => False
  | .error e => CX outer H s E e s'
structure FnOk (P:Program) (w:World) (K:PySem.W.Frag) (mg:Str → Option Value) (base:Heap) (CX:CXT) (k:Nat) (f:Addr) (fd:FuncData) (ps:List Str) (sp:Sp):Prop where
  len:∀ vs H Q E,sp vs H Q E → vs.length = ps.length
  run:∀ (A:Around) (outer:List Env) (s:Shared) (H:Hp) (args:Args) (us:List Value) (vs:List V) (Q:VK) (E:XK),Room k A → Env0 P w K mg base A outer s H → BindsTo s fd args (ps.zip us) → Vals vs us → sp vs H Q E →
    codeAny (model P w) A (.call (.ref f) args) (CR CX outer P w H s Q E) s
theorem FnOk.mono {P:Program} {w:World} {K:PySem.W.Frag} {mg:Str → Option Value} {base:Heap} {CX:CXT} {j k:Nat} {f:Addr} {fd:FuncData} {ps:List Str} {sp:Sp} (F:FnOk P w K mg base CX j f fd ps sp) (h:j ≤ k) :
    FnOk P w K mg base CX k f fd ps sp := ⟨F.len,fun A outer s H args us vs Q E hr => F.run A outer s H args us vs Q E (hr.mono h)⟩
theorem FnOk.imp {P:Program} {w:World} {K:PySem.W.Frag} {mg:Str → Option Value} {base:Heap} {CX:CXT} {k:Nat} {f:Addr} {fd:FuncData} {ps:List Str} {sp sp':Sp} (F:FnOk P w K mg base CX k f fd ps sp)
    (h:∀ vs H Q E,sp' vs H Q E → sp vs H Q E):FnOk P w K mg base CX k f fd ps sp' :=
  ⟨fun vs H Q E q => F.len vs H Q E (h _ _ _ _ q),fun A outer s H args us vs Q E hr he hb hv hs => F.run A outer s H args us vs Q E hr he hb hv (h _ _ _ _ hs)⟩

theorem Env0.in1 {P:Program} {w:World} {K:PySem.W.Frag} {mg:Str → Option Value} {base:Heap} {A:Around} {outer:List Env} {s:Shared} {H:Hp} (e:Env0 P w K mg base A outer s H) :
    Env0 P w K mg base A.in1 outer s H := ⟨e.frames,e.mod,e.bs,e.bsz,e.funs,e.frf,e.hok,e.bare,e.sy⟩

section
variable {X:Cx} {pins:List (Addr × Obj)} {σ:St} {H:Hp} {s s':Shared}
theorem Inv.env0 (I:Inv X pins σ H s):Env0 X.prog X.w X.K X.mg X.base X.A X.stack s H :=
  ⟨I.ok.frames,I.ok.mod,I.bs,Nat.le_trans I.ok.bsz I.sz,I.stack,I.Jr8,I.hok,I.bare,I.sysN⟩
theorem Inv.after {Q:VK} {u:Value} (I:Inv X pins σ H s) (h:CE X.stack X.prog X.w H s Q u s'):EP X pins σ Q u s' := by
  obtain ⟨v,H',os,bare,un,hok,r,q⟩ := h
  obtain ⟨hh,g,d,t,os'⟩ := s'
  obtain rfl:os' = s.os := os
  exact ⟨v,H',I.call (h' := hh) (g' := g) (d' := d) (t' := t) (ch := []) un hok bare (fun b z => absurd z (by simp)),r,q⟩
end

def JAk (sp:Sp) (dvs:List V) (E:XK) (t:TA):TE := fun σ H Q => t σ H fun vs H1 => sp (vs ++ dvs) H1 Q E
def Binds (K:PySem.W.Frag) (fd:FuncData) (ps:List Str) (ds:List Value):Prop :=
  ∀ (s:Shared) (us:List Value),K.In s.heap → (us ++ ds).length = ps.length → BindsTo s fd ⟨us,[]⟩ (ps.zip (us ++ ds))
theorem Binds.all {K:PySem.W.Frag} {fd:FuncData} {ps:List Str} (h:∀ us:List Value,us.length = ps.length → bindArgs fd ⟨us,[]⟩ = pure (ps.zip us)):Binds K fd ps [] := fun s us _ hl => by
  rw [List.append_nil] at hl ⊢
  exact .of_eq (h us hl)

def Passes (CX:CXT) (X:Cx) (E:XK):Prop := ∀ (pins:List (Addr × Obj)) (σ:St) (H:Hp) (s:Shared) (e:Value) (s':Shared),Inv X pins σ H s → CX X.stack H s E e s' → X.xe e s'

section
variable {X:Cx} {CX:CXT} {k:Nat} {f C:Addr} {fd:FuncData} {ps:List Str} {sp:Sp} {dvs:List V} {ds:List Value} {E:XK} {x m:Str} {p pos apos:Pos} {e o:Expr} {es:List Expr} {ta:TE} {t:TA}

theorem JAq {pins:List (Addr × Obj)} {σ:St} {H:Hp} {s:Shared} {Q:VK} {us:List Value} {vs:List V} (F:FnOk X.prog X.w X.K X.mg X.base CX k f fd ps sp) (hr:Room k X.A) (hb:Binds X.K fd ps ds) (hd:Vals dvs ds) (hx:Passes CX X E)
    (I:Inv X pins σ H s) (r:Vals vs us) (h:sp (vs ++ dvs) H Q E):wpAny (model X.prog X.w) X.A (call (.ref f) us) (EP X pins σ Q) X.xe s := by
  have r2:Vals (vs ++ dvs) (us ++ ds) := r.append hd
  have hl:(us ++ ds).length = ps.length := by rw [← r2.length]; exact F.len _ _ _ _ h
  refine wpAny_call (codeAny_mono (F.run X.A X.stack s H ⟨us,[]⟩ (us ++ ds) (vs ++ dvs) Q E hr I.env0 (hb s us I.kIn hl) r2 h) fun r s' hq => ?_)
  cases r with
  | error e => exact hx pins σ H s e s' I hq
  | ok fl =>
    cases fl with
    | ret u => exact I.after hq
    | next => exact False.elim hq
    | brk => exact False.elim hq
    | cont => exact False.elim hq

theorem Jyu (F:FnOk X.prog X.w X.K X.mg X.base CX k f fd ps sp) (hr:Room k X.A) (hg:Gl X x) (hm:X.mg x = some (.ref f)) (hk:PySem.W.keepIn X.K (.ref f) = true) (hb:Binds X.K fd ps ds) (hd:Vals dvs ds) (hx:Passes CX X E)
    (ha:PA X (e :: es) t) (hdb:(x == ("__debug__":Str)) = false := by decide) (he:starEach (e :: es) X.env = (false,eval e X.env) :: starEach es X.env := by rfl) (hpl:(backTo pos (starEach es X.env)).any (·.1) = false := by rfl) :
    PE X (.Call (.Name x p) (e :: es) [] pos) (JAk sp dvs E t) := by
  intro pins s σ H Q I h
  refine wpAny_Call_Name_kw (Jtf I hg hm ?_ hdb)
  refine PySem.W.callWith_K (h₀ := X.base) I.ok.mod.kin hk (thn (ha pos pins s σ H _ I h) fun us s1 ⟨vs,H1,I1,r,q⟩ => ⟨I1.kIn,?_⟩) he hpl
  exact JAq F hr hb hd hx I1 r q

structure Mk (K:PySem.W.Frag) (C f:Addr):Prop where
  makes:PySem.W.makesIn K C = true
  init:PySem.W.findIn K (.ref C) "__init__" = some (some (.ref f))
  fn:PySem.W.isFn K (.ref f) = true
  kp:PySem.W.keepIn K (.ref C) = true

end

section
variable {X:Cx} {CX:CXT} {k:Nat} {f C:Addr} {fd:FuncData} {ps ks:List Str} {sp:Sp} {E:XK} {x m:Str} {p pos apos kpos:Pos} {e o:Expr} {es:List Expr} {kws:List Keyword} {te ta:TE} {t tk:TA} {nm:Option Str}

structure JEb (K:PySem.W.Frag) (fd:FuncData) (ps ks:List Str) (g:List Value → List Value → List Value) (gV:List V → List V → List V):Prop where
  to:∀ (s:Shared) (us ws:List Value),K.In s.heap → (g us ws).length = ps.length → BindsTo s fd ⟨us,ks.zip ws⟩ (ps.zip (g us ws))
  rel:∀ {vs:List V} {us:List Value} {zs:List V} {ws:List Value},Vals vs us → Vals zs ws → Vals (gV vs zs) (g us ws)
variable {g:List Value → List Value → List Value} {gV:List V → List V → List V}
end


structure Jbp (N P:List Str) (sc:Scope):Prop where
  kind:sc.kind = .function
  co:sc.isCoroutine = false
  gen:sc.isGenerator = false
  nd:N.Nodup
  pre:N.take P.length = P
  par:∀ x ∈ P,sc.names.lookup x = some .local ∨ sc.names.lookup x = some .cell
  nofree:∀ y ∈ sc.names,y.2 ≠ .free

theorem Joi {kindOf:Str → Option NameKind} {x:Str}:∀ {binds:List (Str × Value)} {m:Str → Option Value},(∀ v,(x,v) ∉ binds) → bindL kindOf binds m x = m x
  | [],_,_ => rfl
  | (n,v) :: r,m,h => by
    unfold bindL
    rw [Joi fun w hw => h w (List.mem_cons_of_mem _ hw)]
    split
    · have:x ≠ n := by rintro rfl; exact h v List.mem_cons_self
      simp [this]
    · rfl
theorem Jok {kindOf:Str → Option NameKind} {x:Str}:∀ {binds:List (Str × Value)} {m:Str → Option Value},(∀ v,(x,v) ∉ binds) → bindC kindOf binds m x = m x
  | [],_,_ => rfl
  | (n,v) :: r,m,h => by
    unfold bindC
    rw [Jok fun w hw => h w (List.mem_cons_of_mem _ hw)]
    split
    · rfl
    · have:x ≠ n := by rintro rfl; exact h v List.mem_cons_self
      simp [this]
theorem Joj {kindOf:Str → Option NameKind} {x:Str} {v:Value}:∀ {P:List Str} {vs:List Value} {i:Nat} {m:Str → Option Value},P.Nodup → P[i]? = some x → vs[i]? = some v → kindOf x = some .local →
    bindL kindOf (P.zip vs) m x = some v
  | [],_,_,_,_,h,_,_ => by simp at h
  | _ :: _,[],_,_,_,_,h,_ => by simp at h
  | p :: P,w :: vs,0,m,nd,h1,h2,hk => by
    simp at h1 h2; subst h1; subst h2
    show bindL kindOf ((p,w) :: P.zip vs) m p = _
    unfold bindL
    rw [Joi fun v hv => (List.nodup_cons.mp nd).1 (List.of_mem_zip hv).1,if_pos hk]
    simp
  | p :: P,w :: vs,i + 1,m,nd,h1,h2,hk => by
    show bindL kindOf ((p,w) :: P.zip vs) m x = _
    unfold bindL
    exact Joj (i := i) (List.nodup_cons.mp nd).2 (by simpa using h1) (by simpa using h2) hk
theorem Jol {kindOf:Str → Option NameKind} {x:Str} {v:Value}:∀ {P:List Str} {vs:List Value} {i:Nat} {m:Str → Option Value},P.Nodup → P[i]? = some x → vs[i]? = some v → kindOf x ≠ some .local →
    bindC kindOf (P.zip vs) m x = some v
  | [],_,_,_,_,h,_,_ => by simp at h
  | _ :: _,[],_,_,_,_,h,_ => by simp at h
  | p :: P,w :: vs,0,m,nd,h1,h2,hk => by
    simp at h1 h2; subst h1; subst h2
    show bindC kindOf ((p,w) :: P.zip vs) m p = _
    unfold bindC
    rw [Jok fun v hv => (List.nodup_cons.mp nd).1 (List.of_mem_zip hv).1,if_neg hk]
    simp
  | p :: P,w :: vs,i + 1,m,nd,h1,h2,hk => by
    show bindC kindOf ((p,w) :: P.zip vs) m x = _
    unfold bindC
    exact Jol (i := i) (List.nodup_cons.mp nd).2 (by simpa using h1) (by simpa using h2) hk

def start (N:List Str) (vs:List V):St := vs.map some ++ List.replicate (N.length - vs.length) none

def cxOf (CX:CXT) (P:Program) (w:World) (K:PySem.W.Frag) (mg:Str → Option Value) (base:Heap) (N:List Str) (qual:Str) (scope:Scope) (f:Addr) (cd:Value) (A:Around) (outer:List Env) (s:Shared) (H:Hp) (E:XK):Cx where
  prog := P
  w := w
  K := K
  mg := mg
  base := base
  A := A.deeper (envOfC qual scope s.heap.objs.size f cd)
  N := N
  s₀ := s
  H₀ := H
  env := envOfC qual scope s.heap.objs.size f cd
  outer := outer
  stack := envOfC qual scope s.heap.objs.size f cd :: outer
  ex := []
  calm := true
  fn := fun _ => true
  pn := []
  xe := fun e s' => wpAny (model P w) (A.deeper (envOfC qual scope s.heap.objs.size f cd)) (leaving (envOfC qual scope s.heap.objs.size f cd) e) (fun _ s'' => CX outer H s E e s'') (fun e' s'' => CX outer H s E e' s'') s'

theorem Jq7 {sc:Scope} {n:Nat} {x:Str} (h:sc.names.lookup x = some .cell):∃ c,(cellsFrom n sc.names []).lookup x = some c := by
  have q := PySem.W.cellsFrom_some sc.names n [] (.inl h)
  exact Option.isSome_iff_exists.mp q

theorem Jtq {CX:CXT} {P:Program} {w:World} {K:PySem.W.Frag} {mg:Str → Option Value} {base:Heap} {N ps:List Str} {qual:Str} {scope:Scope} {f:Addr} {cd:Value} {A:Around} {outer:List Env} {s s1:Shared} {H:Hp} {E:XK} {us:List Value} {vs:List V}
    (S:Jbp N ps scope) (hd:A.handled = none) (e0:Env0 P w K mg base A outer s H) (hl:vs.length = ps.length) (r:Vals vs us)
    (x:InCallC s s.heap.objs.size (bindL (envOfC qual scope s.heap.objs.size f cd).kindOf (ps.zip us) fun _ => none) (cellsFrom (s.heap.objs.size + 1) scope.names []) (bindC (envOfC qual scope s.heap.objs.size f cd).kindOf (ps.zip us) fun _ => none) s1) :
    Inv (cxOf CX P w K mg base N qual scope f cd A outer s H E) [] (start N vs) H s1 := by
  have hpl:ps.length ≤ N.length := by have := congrArg List.length S.pre; rw [List.length_take] at this; omega
  obtain ⟨h1,tk,rfl,hk⟩ := x.done
  have noA:∀ b:Addr,b ∉ (cxOf CX P w K mg base N qual scope f cd A outer s H E).ex := fun b z => absurd (show b ∈ ([]:List Addr) from z) (by simp)
  refine ⟨⟨e0.mod,S.kind,rfl,rfl,Nat.le_refl _,fun y z c h1 h2 => ?_,fun y hy => ?_,fun y c _ h => ?_,fun _ => hd,Around.frames_deeper e0.frames,.inr ⟨rfl,rfl⟩,fun b z => absurd z (noA b),e0.bs,e0.bsz,fun b _ _ => noA b,fun b z => absurd z (noA b),e0.funs,e0.frf,e0.sy⟩,
    rfl,e0.bare,Un.kept hk,⟨_,x.toInCall.ns,fun i y v h1 h2 h3 => ?_⟩,fun y c h => ⟨_,x.cell y c h⟩,e0.hok.fresh (Nat.le_refl _),fun y c h => ?_,fun p hp => absurd (show p ∈ ([]:List (Addr × Obj)) from hp) (by simp),e0.hok.kept hk,?_⟩
  · exact name_of_addr x.apart (PySem.mem_of_lookup h1) (PySem.mem_of_lookup h2)
  · have hy:scope.names.lookup y = some .cell ∨ scope.names.lookup y = some .free := hy
    rcases hy with hy | hy
    · exact Jq7 hy
    · exact absurd rfl (S.nofree _ (PySem.mem_of_lookup hy))
  · exact Nat.le_of_lt (x.above y c (PySem.mem_of_lookup h))
  · have hi:i < vs.length := by
      unfold start at h2
      by_cases hi:i < vs.length
      · exact hi
      · rw [List.getElem?_append_right (by simpa using hi)] at h2
        rw [List.getElem?_replicate] at h2
        split at h2 <;> cases h2
    have ha:vs[i]? = some v := by
      unfold start at h2
      rw [List.getElem?_append_left (by simpa using hi),List.getElem?_map] at h2
      cases e:vs[i]? with
      | none => rw [e] at h2; cases h2
      | some a => rw [e] at h2; cases h2; rfl
    obtain ⟨u,hu,rv⟩ := r.get ha
    have hp:ps[i]? = some y := by
      rw [← S.pre,List.getElem?_take_of_lt (by omega)]; exact h1
    have ndP:ps.Nodup := by rw [← S.pre]; exact S.nd.sublist (List.take_sublist _ _)
    refine ⟨u,rv,?_⟩
    rcases S.par y (List.mem_of_getElem? hp) with k | k
    · exact .inl ⟨k,Joj ndP hp hu k⟩
    · obtain ⟨c,e⟩ := Jq7 (n := s.heap.objs.size + 1) k
      refine .inr ⟨.inl k,c,e,?_⟩
      have q := x.cell y c e
      rw [Jol ndP hp hu (by show scope.names.lookup y ≠ _; rw [k]; decide)] at q
      exact q
  · exact e0.hok.fresh (Nat.le_of_lt (x.above y c (PySem.mem_of_lookup h)))
  · unfold start
    show _ = N.length
    rw [List.length_append,List.length_map,List.length_replicate]
    omega

theorem JD4 {CX:CXT} {P:Program} {w:World} {K:PySem.W.Frag} {mg:Str → Option Value} {base:Heap} {k:Nat} {f:Addr} {name qual:Str} {params:Arguments} {body:List Stmt} {scope:Scope} {dV kV doc pm cdv ct oc:Value} {an od:Option Addr}
    {osl:Array (Option Value)} {N ps:List Str} {sp:Sp} (lk:K.lookup f = some ⟨oc,od,.func (PySem.W.fnOf name qual params body scope dV kV doc pm an cdv ct),osl⟩) (hcd:PySem.W.codeIn K cdv qual = true) (S:Jbp N ps scope)
    (len:∀ vs H Q E,sp vs H Q E → vs.length = ps.length)
    (hbody:∀ (A:Around) (outer:List Env) (s:Shared) (H:Hp) (vs:List V) (Q:VK) (E:XK),Room k (A.deeper (envOfC qual scope s.heap.objs.size f cdv)) → sp vs H Q E →
      ∃ t,PSs (cxOf CX P w K mg base N qual scope f cdv A outer s H E) body t ∧ t { nx := fun _ H' => Q .non H',rt := Q } (start N vs) H) :
    FnOk P w K mg base CX (k + 1) f (PySem.W.fnOf name qual params body scope dV kV doc pm an cdv ct) ps sp := by
  refine ⟨len,fun A outer s H args us vs Q E hr e0 hb r hsp => ?_⟩
  have hl := len _ _ _ _ hsp
  have KX:K.In s.heap := e0.mod.kin.keeps fun b o e => (e0.bs b o e).1
  have lim:s.heap.NoLimit := e0.mod.nolimit.keeps fun b o e => (e0.bs b o e).1
  have hkind:∀ y ∈ ps.zip us,scope.names.lookup y.1 = some .local ∨ (scope.names.lookup y.1 = some .cell ∧ ((cellsFrom (s.heap.objs.size + 1) scope.names []).lookup y.1).isSome = true) := fun ⟨n,v⟩ hy => by
    rcases S.par n (List.of_mem_zip hy).1 with q | q
    · exact .inl q
    · exact .inr ⟨q,PySem.W.cellsFrom_some _ _ _ (.inl q)⟩
  refine codeAny_call_function hr.depth (KX _ _ lk) rfl S.co S.gen rfl (PySem.W.codeRec_of KX hcd) (hb _ _ _ _ ?_)
  refine wpAny_newFunctionEnv_cells S.kind hkind fun env he s1 x => ?_
  subst he
  refine ⟨lim.keeps x.toInCall.keep,codeAny_func ?_⟩
  obtain ⟨t,ht,hq⟩ := hbody A outer s H vs Q E (hr.deeper _) hsp
  have I:Inv (cxOf CX P w K mg base N qual scope f cdv A outer s H E) [] (start N vs) H s1 := Jtq S hr.hd e0 hl r x
  refine wpAny_mono (ht [] s1 (start N vs) H _ I hq) (fun fl s' hs => ?_) fun e s' hs => hs
  have fin:∀ {σ':St} {H':Hp} {v:V} {u:Value},Inv (cxOf CX P w K mg base N qual scope f cdv A outer s H E) [] σ' H' s' → RelV v u → Q v H' → CE outer P w H s Q u s' :=
    fun {σ' H' v u} J rv q => ⟨v,H',J.os,J.bare,J.base,J.hok,rv,q⟩
  cases fl with
  | ret u =>
    obtain ⟨v,σ',H',J,rv,q⟩ := hs
    exact fin J rv q
  | next =>
    obtain ⟨σ',H',J,q⟩ := hs
    exact fin (v := V.non) (u := Value.none) J rfl q
  | brk =>
    obtain ⟨_,_,_,q⟩ := hs
    exact False.elim q
  | cont =>
    obtain ⟨_,_,_,q⟩ := hs
    exact False.elim q
end L2

namespace L2
open PySem PySem.Spec PyProof.Rows
section
variable {X:Cx} {x:Str} {p pos:Pos} {e:Expr} {es:List Expr} {t:TA} {id T:String} {r:List V → Hp → VK → Prop}

def tCB (r:List V → Hp → VK → Prop) (t:TA):TE := fun σ H Q => t σ H fun vs H1 => r vs H1 Q
theorem Jqi (hc:Jd1 X (.builtin id) r) (hg:Gl X x) (hm:X.mg x = none) (hv:bootBuiltins x = some (.builtin id)) (ha:PA X (e :: es) t) (hn:x ≠ "__name__" := by decide) (hdb:(x == ("__debug__":Str)) = false := by decide)
    (he:starEach (e :: es) X.env = (false,eval e X.env) :: starEach es X.env := by rfl) (hpl:(backTo pos (starEach es X.env)).any (·.1) = false := by rfl):PE X (.Call (.Name x p) (e :: es) [] pos) (tCB r t) := by
  intro pins s σ H Q I h
  refine wpAny_Call_Name_kw (Jli I hg hm hv ?_ hn hdb)
  exact PyProof.Rows.callWith_builtin1 (thn (ha pos pins s σ H _ I h) fun us s1 ⟨vs,H1,I1,r1,q1⟩ => hc pins s1 σ H1 vs us Q I1 r1 q1) he hpl
theorem Jip (hc:Jd1 X (.type T) r) (hg:Gl X x) (hm:X.mg x = none) (hv:bootBuiltins x = some (.type T)) (ha:PA X (e :: es) t) (hn:x ≠ "__name__" := by decide) (hdb:(x == ("__debug__":Str)) = false := by decide)
    (he:starEach (e :: es) X.env = (false,eval e X.env) :: starEach es X.env := by rfl) (hpl:(backTo pos (starEach es X.env)).any (·.1) = false := by rfl):PE X (.Call (.Name x p) (e :: es) [] pos) (tCB r t) := by
  intro pins s σ H Q I h
  refine wpAny_Call_Name_kw (Jli I hg hm hv ?_ hn hdb)
  exact PyProof.Rows.callWith_type1 (thn (ha pos pins s σ H _ I h) fun us s1 ⟨vs,H1,I1,r1,q1⟩ => hc pins s1 σ H1 vs us Q I1 r1 q1) he hpl
end
end L2

namespace HT
open PySem PyProof.Rows

section
open PySem.SeqAt
open PySem.AutoSeq1 (wpAny_loadPart')
open PySem.MeetsSeq PySem.MeetsSeq2 PySem.MeetsSeq3

end

section
variable {prog:Program} {w:World} {A:Around} {E:Value → Shared → Prop} {s:Shared}

theorem Jz1 {t b:Addr} {vs ws:List Value} {Q:Value → Shared → Prop} (ht:IsTup s.heap t vs.toArray) (hb:IsTup s.heap b ws.toArray) (hv:vs ≠ [])
    (h1:ws = [] → Q (.ref t) s) (h2:ws ≠ [] → Q (.ref s.heap.objs.size) { s with heap := s.heap.push { cls := .type "tuple",data := .seq (vs ++ ws).toArray } })
    (hsz:vs.length + ws.length ≤ sizeLine):wpAny (model prog w) A (binaryOp .Add (.ref t) (.ref b)) Q E s := by
  obtain ⟨⟨cls,dd,data,sl⟩,ho,hc,n,hd⟩ := id ht
  obtain ⟨⟨cls2,dd2,data2,sl2⟩,ho2,hc2,n2,hd2⟩ := id hb
  simp only at hc hd hc2 hd2
  subst hc hd hc2 hd2
  have e:vs.toArray ++ ws.toArray = (vs ++ ws).toArray := by simp
  by_cases hw:ws = []
  · exact concat_meets ⟨_,ho,rfl⟩ ⟨_,ho2,rfl⟩ noFill_tuple_add seq_tuple_add PySem.F.slot_tuple_add PySem.F.entry_tuple_add (PySem.F.args_tuple_add_2 _ _)
      (tuple_addW1 t b vs.toArray ws.toArray n n2 dd dd2 sl sl2 (by simpa using hv) (by simp [hw])) ⟨ho,ho2,h1 hw⟩
  · refine concat_meets ⟨_,ho,rfl⟩ ⟨_,ho2,rfl⟩ noFill_tuple_add seq_tuple_add PySem.F.slot_tuple_add PySem.F.entry_tuple_add (PySem.F.args_tuple_add_2 _ _)
      (tuple_addW2 t b vs.toArray ws.toArray n n2 dd dd2 sl sl2 (by simpa using hv) (by simpa using hw) (by rw [List.size_toArray,List.size_toArray]; exact hsz)) ⟨ho,ho2,?_⟩
    rw [e]
    exact h2 hw

def sIx (n d:Nat):Option Int → Nat
  | none => d
  | some v => if v < 0 then (v + (n:Int)).toNat else min v.toNat n
theorem JAp (n d:Nat) (hd:d ≤ n) (o:Option Int):sIx n d o ≤ n := by
  cases o with
  | none => exact hd
  | some v =>
    show (if v < 0 then (v + (n:Int)).toNat else min v.toNat n) ≤ n
    by_cases hv:v < 0
    · rw [if_pos hv]; omega
    · rw [if_neg hv]; exact Nat.min_le_right _ _
theorem Jt8 (v:Int) (n d:Nat):(if v < 0 then max (v + (n:Int)) 0 else min v (n:Int)) = ((sIx n d (some v):Nat):Int) := by
  show (if v < 0 then max (v + (n:Int)) 0 else min v (n:Int)) = (((if v < 0 then (v + (n:Int)).toNat else min v.toNat n):Nat):Int)
  by_cases hv:v < 0
  · simp only [if_pos hv]; omega
  · simp only [if_neg hv]; omega
theorem Jr0 (lo hi:Option Int) (n:Nat):Builtin.Slice.sliceAdjust lo hi 1 (n:Int) = (((sIx n 0 lo:Nat):Int),((sIx n n hi:Nat):Int)) := by
  have h1:¬ ((1:Int) < 0) := by omega
  unfold Builtin.Slice.sliceAdjust
  simp only [h1,if_false]
  refine Prod.ext ?_ ?_
  · cases lo with
    | none => rfl
    | some v => exact Jt8 v n 0
  · cases hi with
    | none => rfl
    | some v => exact Jt8 v n n
theorem Jri (i j:Nat):Builtin.Slice.slicePlaces (i:Int) (j:Int) 1 = j - i := by
  unfold Builtin.Slice.slicePlaces
  have h1:(1:Int) > 0 := by omega
  simp only [h1,if_true,Int.ediv_one]
  split <;> omega
theorem Jlf {v:Value} {o:Option Int} {Q:Option Int → Shared → Prop} (p:IsPart v o) (h:Q o s):wpAny (model prog w) A (Builtin.Slice.slicePartIndex v) Q E s := by
  cases p with
  | none => exact slicePart_none h
  | int i t => exact slicePart_int h
theorem Jgw {sl:Addr} {vl vu:Value} {lo hi:Option Int} {n:Nat} {Q:Int × Int × Nat → Shared → Prop} (hs:s.heap.IsSliceOf sl vl vu .none) (pl:IsPart vl lo) (pu:IsPart vu hi)
    (h:Q (((sIx n 0 lo:Nat):Int),1,sIx n n hi - sIx n 0 lo) s):wpAny (model prog w) A (Builtin.Slice.sliceApplied (.ref sl) (pure (n:Int))) Q E s := by
  obtain ⟨os,hos,hcs,hds⟩ := id hs
  unfold Builtin.Slice.sliceApplied Builtin.Slice.sliceFields
  refine wpAny_bind (wpAny_bind (wpAny_field hos hds (x := vl) rfl (wpAny_bind (wpAny_field hos hds (x := vu) rfl (wpAny_bind (wpAny_field hos hds (x := .none) rfl (wpAny_pure ?_)))))))
  refine wpAny_bind (slicePart_none ?_)
  show wpAny _ _ (if ((1:Int) == 0) = true then _ else _) _ _ s
  rw [if_neg (by decide)]
  refine wpAny_bind (Jlf pl (wpAny_bind (Jlf pu (wpAny_bind (wpAny_pure ?_)))))
  show wpAny _ _ (match Builtin.Slice.sliceAdjust lo hi 1 (n:Int) with | (lo,hi) => pure (lo,(1:Int),Builtin.Slice.slicePlaces lo hi 1)) _ _ s
  rw [Jr0 lo hi n]
  show wpAny _ _ (pure (((sIx n 0 lo:Nat):Int),(1:Int),Builtin.Slice.slicePlaces ((sIx n 0 lo:Nat):Int) ((sIx n n hi:Nat):Int) 1)) _ _ s
  rw [Jri]
  exact wpAny_pure h
theorem Ju8 (xs:Array Value) (i k:Nat):((List.range k).filterMap fun (m:Nat) => xs[((i:Int) + (m:Int) * 1).toNat]?).toArray = ((xs.toList.drop i).take k).toArray := by
  have e:(fun (m:Nat) => xs[((i:Int) + (m:Int) * 1).toNat]?) = fun m => xs[i + m]? := by
    funext m
    have:((i:Int) + (m:Int) * 1).toNat = i + m := by omega
    rw [this]
  rw [e]
  have := pick_run xs i k
  rw [List.filterMap_map] at this
  have e2:((fun x => xs[x]?) ∘ fun x => i + x) = fun m => xs[i + m]? := rfl
  rw [e2] at this
  rw [this]

theorem Jjg {t sl:Addr} {items:Array Value} {vl vu:Value} {lo hi:Option Int} {Q:Value → Shared → Prop} (ht:IsTup s.heap t items) (hs:s.heap.IsSliceOf sl vl vu .none) (pl:IsPart vl lo) (pu:IsPart vu hi)
    (hw:¬ (sIx items.size 0 lo = 0 ∧ sIx items.size items.size hi = items.size))
    (h:Q (.ref s.heap.objs.size) { s with heap := s.heap.push { cls := .type "tuple",data := .seq ((items.toList.drop (sIx items.size 0 lo)).take (sIx items.size items.size hi - sIx items.size 0 lo)).toArray } })
    (hsz:items.size ≤ sizeLine):wpAny (model prog w) A (getItem (.ref t) (.ref sl)) Q E s := by
  have htake:sizeOk (.seq ((items.toList.drop (sIx items.size 0 lo)).take (sIx items.size items.size hi - sIx items.size 0 lo)).toArray) := by
    show ((items.toList.drop (sIx items.size 0 lo)).take (sIx items.size items.size hi - sIx items.size 0 lo)).toArray.size ≤ sizeLine
    rw [List.size_toArray,List.length_take,List.length_drop,Array.length_toList]
    omega
  have hj:sIx items.size items.size hi ≤ items.size := JAp _ _ (Nat.le_refl _) hi
  obtain ⟨os,hos,hcs,hds⟩ := id hs
  have hTs:s.TypeIs (.ref sl) "slice" := ⟨os,hos,hcs⟩
  unfold getItem
  try with_reducible refine wpAny_holding ?_
  first | refine wpAny_bind (wpAny_pure ?_) | skip
  refine wpAny_bind (wpAny_sequenceKey ht.typeIs (by decide) ?_)
  refine wpAny_bind (wpAny_callSpecial?_slot (name := Str.ofString "__getitem__") ht.typeIs PyProof.Rows.slot_tuple_getitem
    (wpAny_call_entry PyProof.Rows.slot_tuple_getitem ht.typeIs entry_tuple_getitem ?_ (args_tuple_getitem _ _)))
  show wpAny _ _ (Builtin.Tuple.tupleItemsOf (.ref t) >>= _) _ _ s
  refine wpAny_bind (tupleItemsOf_ ht ?_)
  refine wpAny_bind (wpAny_typeOf hTs ?_)
  rw [if_pos (by decide)]
  refine wpAny_bind (Jgw hs pl pu ?_)
  have hno:¬ ((((sIx items.size 0 lo:Nat):Int) == 0 && (1:Int) == 1 && (sIx items.size items.size hi - sIx items.size 0 lo) == items.size) = true) := by
    intro q
    rw [Bool.and_eq_true,Bool.and_eq_true] at q
    have q1:((sIx items.size 0 lo:Nat):Int) = 0 := eq_of_beq q.1.1
    have q2:sIx items.size items.size hi - sIx items.size 0 lo = items.size := eq_of_beq q.2
    exact hw ⟨by omega,by omega⟩
  show wpAny _ _ (if (((sIx items.size 0 lo:Nat):Int) == 0 && (1:Int) == 1 && (sIx items.size items.size hi - sIx items.size 0 lo) == items.size) = true then _ else _) _ _ s
  rw [if_neg hno,Ju8]
  first
    | exact wpAny_bind (m := Builtin.Tuple.tupleExact _) (wpAny_newObj_type (wpAny_pure ⟨_,rfl,wpAny_pure h⟩) htake)
    | exact wpAny_bind (m := Builtin.Tuple.tupleExact _) (wpAny_newObj_type (wpAny_bind (wpAny_pure (wpAny_pure ⟨_,rfl,wpAny_pure h⟩))) htake)
    | exact wpAny_bind (wpAny_bind (m := Builtin.Tuple.tupleExact _) (wpAny_newObj_type (wpAny_pure (wpAny_pure ⟨_,rfl,wpAny_pure h⟩)) htake))
    | exact wpAny_bind (wpAny_bind (m := Builtin.Tuple.tupleExact _) (wpAny_newObj_type (wpAny_pure ⟨_,rfl,wpAny_pure h⟩) htake))
end
end HT

namespace L2
open PySem PySem.Spec PyProof.Rows

abbrev TO := St → Hp → (Option Int → Hp → Prop) → Prop
def PO (X:Cx) (e:Option Expr) (t:TO):Prop :=
  ∀ (pins:List (Addr × Obj)) (s:Shared) (σ:St) (H:Hp) (Q:Option Int → Hp → Prop),Inv X pins σ H s → t σ H Q →
    wpAny (model X.prog X.w) X.A (evalPart e X.env) (fun u s' => ∃ o H',Inv X pins σ H' s' ∧ IsPart u o ∧ Q o H') X.xe s
def Jx2:TO := fun _ H Q => Q none H
def JDc (t:TE):TO := fun σ H Q => t σ H fun x H1 => ∃ i,x = .int i ∧ Q (some i) H1

theorem intsAre_of {ns:List Int}:∀ {us:List Value},Vals (ns.map V.int) us → IntsAre us ns := by
  induction ns with
  | nil => intro us r; rw [List.map_nil] at r; cases r; exact .nil
  | cons n ns ih =>
    intro us r
    rw [List.map_cons] at r
    cases r with
    | cons r1 r2 =>
      obtain ⟨t,e⟩ := r1
      subst e
      exact .cons n t (ih r2)

section
variable {X:Cx} {e:Expr} {te:TE} {lo hi:Option Expr} {tl th:TO} {pos p2:Pos}

theorem Jyp:PO X none Jx2 := by
  intro pins s σ H Q I h
  rw [evalPart_none]
  exact wpAny_pure ⟨none,H,I,.none,h⟩
theorem Jyo (h:PE X e te):PO X (some e) (JDc te) := by
  intro pins s σ H Q I hw
  rw [evalPart_some]
  refine thn (h pins s σ H _ I hw) fun u s1 ⟨x,H1,I1,r1,q1⟩ => ?_
  obtain ⟨i,rfl,q⟩ := q1
  obtain ⟨t,rfl⟩ := r1
  exact ⟨some i,H1,I1,.int i t,q⟩

def SlR (X:Cx) (r:V → Option Int → Option Int → Hp → VK → Prop):Prop :=
  ∀ (pins:List (Addr × Obj)) (s:Shared) (σ:St) (H:Hp) (x:V) (v vl vu:Value) (lo hi:Option Int) (sl:Addr) (Q:VK),Inv X pins σ H s → RelV x v → s.heap.IsSliceOf sl vl vu .none → IsPart vl lo → IsPart vu hi → r x lo hi H Q →
    ∃ T id,typeLookup (.type T) "__getitem__" = pure (some (.builtin id)) ∧ s.TypeIs v T ∧ wpAny (model X.prog X.w) X.A (getItem v (.ref sl)) (EP X pins σ Q) X.xe s
theorem SlR.or {r r':V → Option Int → Option Int → Hp → VK → Prop} (h:SlR X r) (h':SlR X r'):SlR X (fun x lo hi H Q => r x lo hi H Q ∨ r' x lo hi H Q) := by
  intro pins s σ H x v vl vu lo hi sl Q I rx hs pl pu q
  rcases q with q | q
  · exact h pins s σ H x v vl vu lo hi sl Q I rx hs pl pu q
  · exact h' pins s σ H x v vl vu lo hi sl Q I rx hs pl pu q
def tSl (r:V → Option Int → Option Int → Hp → VK → Prop) (te:TE) (tl th:TO):TE := fun σ H Q => te σ H fun x H1 => tl σ H1 fun l H2 => th σ H2 fun u H3 => r x l u H3 Q
theorem Jva {r:V → Option Int → Option Int → Hp → VK → Prop} (hr:SlR X r) (he:PE X e te) (hl:PO X lo tl) (hu:PO X hi th):PE X (.Subscript e (.Slice lo hi none p2) pos) (tSl r te tl th) := by
  intro pins s σ H Q I h
  refine Subscript_ (thn (he pins s σ H _ I h) fun v s1 ⟨x,H1,I1,r1,q1⟩ => ?_)
  refine wpAny_Slice (thn (hl pins s1 σ H1 _ I1 q1) fun vl s2 ⟨l,H2,I2,pl,q2⟩ => thn (hu pins s2 σ H2 _ I2 q2) fun vu s3 ⟨u,H3,I3,pu,q3⟩ => ?_)
  rw [evalPart_none]
  refine wpAny_pure ?_
  have I4:Inv X pins σ H3 { s3 with heap := s3.heap.push { cls := .type "slice",data := .fields #[vl,vu,.none] } } := I3.kept (t' := s3.toks) fun b ob q => Heap.get?_push_of_some _ q
  obtain ⟨T,id,hT,ht,hg⟩ := hr pins { s3 with heap := s3.heap.push { cls := .type "slice",data := .fields #[vl,vu,.none] } } σ H3 x v vl vu l u s3.heap.objs.size Q I4 r1 (Heap.IsSliceOf.new ..) pl pu q3
  show wpAny (model X.prog X.w) X.A (subscriptTail e (.Slice lo hi none p2) v (.ref s3.heap.objs.size)) (EP X pins σ Q) X.xe { s3 with heap := s3.heap.push { cls := .type "slice",data := .fields #[vl,vu,.none] } }
  exact tail_any (ops := [.ref s3.heap.objs.size,v]) ht hT hg (by with_unfolding_all rfl)

def cutV (xs:List V) (lo hi:Option Int):List V := (xs.drop (HT.sIx xs.length 0 lo)).take (HT.sIx xs.length xs.length hi - HT.sIx xs.length 0 lo)
theorem Jk1 (xs:List V) (lo hi:Option Int):(cutV xs lo hi).length ≤ xs.length := by
  unfold cutV
  rw [List.length_take,List.length_drop]
  omega
def rSlT (K:PySem.W.Frag):V → Option Int → Option Int → Hp → VK → Prop := fun x lo hi H Q => ∃ a xs,x = .ref a ∧ SqT K H a xs ∧
  ¬ (HT.sIx xs.length 0 lo = 0 ∧ HT.sIx xs.length xs.length hi = xs.length) ∧ ∀ p,H p = none → Q (.ref p) (upd H p (.tup (cutV xs lo hi)))
theorem JAm:SlR X (rSlT X.K) := by
  intro pins s σ H x v vl vu lo hi sl Q I rx hs pl pu h
  obtain ⟨a,xs,rfl,hx,hw,q⟩ := h
  cases rx
  obtain ⟨its,r,ht,hz⟩ := I.tuple hx
  have hlen:its.toArray.size = xs.length := by rw [List.size_toArray]; exact r.length.symm
  refine ⟨"tuple",_,PyProof.Rows.slot_tuple_getitem.lookup,ht.typeIs,?_⟩
  refine HT.Jjg ht hs pl pu (by rw [hlen]; exact hw) ?_ (by rw [hlen]; exact hz)
  rw [hlen]
  refine ⟨.ref s.heap.objs.size,_,I.laid (t' := s.toks) (o := .tup (cutV xs lo hi)) (fun b ob q => Heap.get?_push_of_some _ q) (Nat.le_refl _) ?_,rfl,q _ (I.hok.fresh (Nat.le_refl _))⟩
  exact ⟨Nat.le_trans (Jk1 xs lo hi) hz,_,(r.drop (HT.sIx xs.length 0 lo)).take (HT.sIx xs.length xs.length hi - HT.sIx xs.length 0 lo),IsTup.new _ _⟩

def JDl (K:PySem.W.Frag):R2 := fun x y H Q => ∃ a b xs ys,x = .ref a ∧ y = .ref b ∧ SqT K H a xs ∧ SqT K H b ys ∧ xs ≠ [] ∧ xs.length + ys.length ≤ sizeLine ∧
  (ys = [] → Q (.ref a) H) ∧ (ys ≠ [] → ∀ p,H p = none → Q (.ref p) (upd H p (.tup (xs ++ ys))))
theorem Vals.Jma {xs:List V} {us:List Value} (r:Vals xs us):us = [] ↔ xs = [] := by
  cases r with
  | nil => simp
  | cons _ _ => simp
theorem Jyy:OpR X (binaryOp .Add) (JDl X.K) := by
  intro pins s σ H x y v u Q I rx ry h
  obtain ⟨a,b,xs,ys,rfl,rfl,ha,hb,hx,hz,q1,q2⟩ := h
  cases rx
  cases ry
  obtain ⟨its,r1,p1,_⟩ := I.tuple ha
  obtain ⟨its2,r2,p2,_⟩ := I.tuple hb
  refine HT.Jz1 p1 p2 (fun z => hx (r1.Jma.mp z)) (fun z => ⟨.ref a,H,I,rfl,q1 (r2.Jma.mp z)⟩) (fun z => ?_) (by rw [← r1.length,← r2.length]; exact hz)
  refine ⟨.ref s.heap.objs.size,_,I.laid (t' := s.toks) (o := .tup (xs ++ ys)) (fun b ob q => Heap.get?_push_of_some _ q) (Nat.le_refl _) ?_,rfl,q2 (fun w => z (r2.Jma.mpr w)) _ (I.hok.fresh (Nat.le_refl _))⟩
  exact ⟨by rw [List.length_append]; exact hz,_,r1.append r2,IsTup.new _ _⟩
end
end L2

namespace L2
open PySem PySem.Spec PyProof.Rows

def ixN (n:Nat) (i:Int):Option Nat := if 0 ≤ i then (if i < n then some i.toNat else none) else if -(n:Int) ≤ i then some (i + n).toNat else none
def atI {α:Type} (xs:List α) (i:Int):Option α := (ixN xs.length i).bind fun j => xs[j]?
theorem Jtl {n:Nat} {i:Int} {j:Nat} (h:ixN n i = some j):seqIndex? i n = some j ∧ j < n ∧ -(n:Int) ≤ i ∧ i < n := by
  unfold ixN at h
  by_cases h0:0 ≤ i
  · rw [if_pos h0] at h
    by_cases h1:i < n
    · rw [if_pos h1] at h
      have e:i.toNat = j := Option.some.inj h
      exact ⟨by rw [seqIndex_of h0 h1,e],by omega,by omega,h1⟩
    · rw [if_neg h1] at h; cases h
  · rw [if_neg h0] at h
    by_cases h1:-(n:Int) ≤ i
    · rw [if_pos h1] at h
      have e:(i + n).toNat = j := Option.some.inj h
      exact ⟨by rw [seqIndex_neg (by omega) h1,e],by omega,h1,by omega⟩
    · rw [if_neg h1] at h; cases h
theorem Jps {α:Type} {xs:List α} {i:Int} {v:α} (h:atI xs i = some v):∃ j,seqIndex? i xs.length = some j ∧ xs[j]? = some v ∧ j < xs.length ∧ -(xs.length:Int) ≤ i ∧ i < xs.length := by
  unfold atI at h
  cases e:ixN xs.length i with
  | none => rw [e] at h; cases h
  | some j =>
    rw [e] at h
    obtain ⟨h1,h2,h3,h4⟩ := Jtl e
    exact ⟨j,h1,h,h2,h3,h4⟩
theorem Jgv {α:Type} {xs:List α} {j:Nat} {v:α} (h:xs[j]? = some v):atI xs (j:Int) = some v := by
  have hj:j < xs.length := (List.getElem?_eq_some_iff.mp h).1
  have e:ixN xs.length (j:Int) = some j := by
    unfold ixN
    rw [if_pos (by omega),if_pos (by omega)]; simp
  unfold atI; rw [e]; exact h
def Jmz (b:Expr):Prop := ∀ o i,subscripted b false o i = operate [o,i] (getItem o i)
def IxR (X:Cx) (r:R2):Prop :=
  ∀ (value slice:Expr) (pins:List (Addr × Obj)) (s:Shared) (σ:St) (H:Hp) (x y:V) (v u:Value) (Q:VK),Inv X pins σ H s → RelV x v → RelV y u → r x y H Q →
    subscripted slice false v u = operate [v,u] (getItem v u) → wpAny (model X.prog X.w) X.A (subscriptTail value slice v u) (EP X pins σ Q) X.xe s
def MtR (X:Cx) (id:String) (r:V → List V → Hp → VK → Prop):Prop :=
  ∀ (pins:List (Addr × Obj)) (s:Shared) (σ:St) (H:Hp) (x:V) (xs:List V) (v:Value) (us:List Value) (Q:VK),Inv X pins σ H s → RelV x v → Vals xs us → r x xs H Q →
    wpAny (model X.prog X.w) X.A (call (.builtin id) (v :: us)) (EP X pins σ Q) X.xe s
section
variable {X:Cx} {a b:Expr} {ta tb:TE} {pos:Pos}
theorem IxR.or {r r':R2} (h:IxR X r) (h':IxR X r'):IxR X (fun x y H Q => r x y H Q ∨ r' x y H Q) := by
  intro value slice pins s σ H x y v u Q I rx ry q hs
  rcases q with q | q
  · exact h value slice pins s σ H x y v u Q I rx ry q hs
  · exact h' value slice pins s σ H x y v u Q I rx ry q hs
theorem MtR.or {id:String} {r r':V → List V → Hp → VK → Prop} (h:MtR X id r) (h':MtR X id r'):MtR X id (fun x xs H Q => r x xs H Q ∨ r' x xs H Q) := by
  intro pins s σ H x xs v us Q I rx rs q
  rcases q with q | q
  · exact h pins s σ H x xs v us Q I rx rs q
  · exact h' pins s σ H x xs v us Q I rx rs q
theorem JDq {r:R2} (hr:IxR X r) (ha:PE X a ta) (hb:PE X b tb) (hs:Jmz b):PE X (.Subscript a b pos) (tOp r ta tb) := by
  intro pins s σ H Q I h
  exact Subscript_ (binT ha hb I h fun v u s2 x y H2 I2 rx ry q => hr a b pins s2 σ H2 x y v u Q I2 rx ry q (hs _ _))

def rIxL (K:PySem.W.Frag):R2 := fun x y H Q => ∃ p xs i v,x = .ref p ∧ y = .int i ∧ SqL K H p xs ∧ atI xs i = some v ∧ Q v H
def rIxT (K:PySem.W.Frag):R2 := fun x y H Q => ∃ p xs i v,x = .ref p ∧ y = .int i ∧ SqT K H p xs ∧ atI xs i = some v ∧ Q v H
def rIxS:R2 := fun x y H Q => ∃ z i c,x = .str z ∧ y = .int i ∧ z.length ≤ sizeLine ∧ atI z.cps.toList i = some c ∧ Q (.str ⟨#[c]⟩) H
theorem Jzh:IxR X (rIxL X.K) := by
  intro value slice pins s σ H x y v u Q I rx ry h hs
  obtain ⟨p,xs,i,z,rfl,rfl,hq,he,q⟩ := h
  cases rx
  obtain ⟨t,rfl⟩ := ry
  obtain ⟨its,r,pl,hz⟩ := I.list hq
  obtain ⟨j,h1,h2,h3,h4,h5⟩ := Jps he
  obtain ⟨w,ew,rw'⟩ := r.get h2
  have hl := r.length
  have hn := Jnq
  have fin:EP X pins σ Q w s := ⟨z,H,I,rw',q⟩
  by_cases h0:0 ≤ i
  · have hj:i.toNat = j := by
      rw [seqIndex_of h0 h5] at h1
      exact Option.some.inj h1
    exact item_listR pl.isList h0 (by omega) (by rw [hj]; simpa using ew) fin hs
  · have hj:(i + (its.toArray.size:Int)).toNat = j := by
      rw [seqIndex_neg (by omega) h4] at h1
      rw [List.size_toArray,← hl]
      exact Option.some.inj h1
    exact subscriptTail_builtinR (x := w) pl.isList.typeIs slot_list_getitem.lookup
      (wpAny_getItem_list_neg (Q := fun r s' => r = w ∧ EP X pins σ Q r s') pl.isList (by omega) (by rw [List.size_toArray] <;> omega) (by omega) (by rw [hj]; simpa using ew) ⟨rfl,fin⟩) hs
theorem JB2:IxR X (rIxT X.K) := by
  intro value slice pins s σ H x y v u Q I rx ry h hs
  obtain ⟨p,xs,i,z,rfl,rfl,hq,he,q⟩ := h
  cases rx
  obtain ⟨t,rfl⟩ := ry
  obtain ⟨its,r,pl,hz⟩ := I.tuple hq
  obtain ⟨j,h1,h2,h3,h4,h5⟩ := Jps he
  obtain ⟨w,ew,rw'⟩ := r.get h2
  have hl := r.length
  have hn := Jnq
  have fin:EP X pins σ Q w s := ⟨z,H,I,rw',q⟩
  exact subscriptTail_builtinR (x := w) pl.typeIs slot_tuple_getitem.lookup
    (getItem_tuple (j := j) (Q := fun r s' => r = w ∧ EP X pins σ Q r s') pl (by omega) (by omega) (by rw [List.size_toArray,← hl]; exact h1) (by simpa using ew) ⟨rfl,fin⟩) hs
theorem JB3:IxR X rIxS := by
  intro value slice pins s σ H x y v u Q I rx ry h hs
  obtain ⟨z,i,c,rfl,rfl,hz,he,q⟩ := h
  obtain ⟨t,rfl⟩ := rx
  obtain ⟨t',rfl⟩ := ry
  obtain ⟨j,h1,h2,h3,h4,h5⟩ := Jps he
  have hl:z.cps.toList.length = z.length := by simp [Str.length]
  rw [hl] at h1 h4 h5
  have hn := Jnq
  exact tail_any (typeIs_str s z t) slot_str_getitem.lookup (getItem_str (c := c) (by
    have e1:decide (i < -(2 ^ 63:Int)) = false := decide_eq_false (by omega)
    have e2:decide (i ≥ 2 ^ 63) = false := decide_eq_false (by omega)
    rw [e1,e2,Bool.or_false]) (by rw [h1]; simpa using h2) ⟨.str ⟨#[c]⟩,H,I.tok _,⟨_,rfl⟩,q⟩) hs
def rIx (K:PySem.W.Frag):R2 := fun x y H Q => rIxL K x y H Q ∨ rIxT K x y H Q ∨ rIxS x y H Q
theorem Jas:IxR X (rIx X.K) := Jzh.or (JB2.or JB3)

theorem Jrp (its:List Value) (n j:Nat) (u:Value):Obj.mapSeq (·.setIfInBounds j u) { cls := .type "list",data := .seq its.toArray n } = { cls := .type "list",data := .seq (its.set j u).toArray n } := by
  simp [Obj.mapSeq]
theorem Inv.lst {pins:List (Addr × Obj)} {σ:St} {H:Hp} {s:Shared} {p:Addr} {xs:List V} (I:Inv X pins σ H s) (h:H p = some (.lst xs)) :
    ∃ (its:List Value) (n:Nat),Vals xs its ∧ s.heap.get? p = some { cls := .type "list",data := .seq its.toArray n } ∧ xs.length ≤ sizeLine := by
  obtain ⟨z,its,n,r,e⟩ := I.hok p _ h
  exact ⟨its,n,r,e,z⟩
theorem Inv.JBt {pins:List (Addr × Obj)} {σ:St} {H:Hp} {s:Shared} {p:Addr} {xs ys:List V} {its its':List Value} {n n':Nat} {f:Obj → Obj} (I:Inv X pins σ H s) (h:H p = some (.lst xs))
    (ho:s.heap.get? p = some { cls := .type "list",data := .seq its.toArray n }) (hf:f { cls := .type "list",data := .seq its.toArray n } = { cls := .type "list",data := .seq its'.toArray n' }) (r:Vals ys its') (hz:ys.length ≤ sizeLine) (t:Nat) :
    Inv X pins σ (upd H p (.lst ys)) { s with heap := s.heap.update p f,toks := t } := by
  have e:(s.heap.update p f).get? p = some { cls := .type "list",data := .seq its'.toArray n' } := by
    rw [Heap.get?_update_self f ho (by rw [hf] <;> rfl),hf]
  refine I.write (x := p) (e := p) (by rw [h]; trivial) (.inl rfl) (fun b u hb q => (Heap.get?_update_other _ _ (Ne.symm hb)).trans q) ⟨_,e⟩ ?_
  exact ⟨hz,its',n',r,e⟩
def JDj:V → V → V → Hp → (Hp → Prop) → Prop := fun o i v H Q => ∃ p xs k j,o = .ref p ∧ i = .int k ∧ H p = some (.lst xs) ∧ ixN xs.length k = some j ∧ Q (upd H p (.lst (xs.set j v)))
theorem set_list:PSet X JDj := by
  intro pins s σ H o i v ov iv u Q I ro ri rv h
  obtain ⟨p,xs,k,j,rfl,rfl,hp,hj,q⟩ := h
  cases ro
  obtain ⟨t,rfl⟩ := ri
  obtain ⟨its,n,r,ho,hz⟩ := I.lst hp
  obtain ⟨h1,h2,h3,h4⟩ := Jtl hj
  have hl := r.length
  have hn := Jnq
  have I':Inv X pins σ (upd H p (.lst (xs.set j v))) { s with heap := s.heap.update p (Obj.mapSeq (·.setIfInBounds j u)) } :=
    I.JBt hp ho (Jrp its n j u) (r.set rv j) (by rw [List.length_set]; exact hz) s.toks
  by_cases h0:0 ≤ k
  · have hk:k.toNat = j := by
      rw [seqIndex_of h0 h4] at h1
      exact Option.some.inj h1
    exact PySem.W.ki_setAt ho h0 (by omega) (by rw [List.size_toArray,← hl]; exact h4) (by rw [hk]; exact ⟨_,I',q⟩)
  · have hk:(k + (its.toArray.size:Int)).toNat = j := by
      rw [seqIndex_neg (by omega) h3] at h1
      rw [List.size_toArray,← hl]
      exact Option.some.inj h1
    exact PySem.W.ki_setBack ho (by omega) (by rw [List.size_toArray,← hl]; exact h3) (by omega) (by rw [hk]; exact ⟨_,I',q⟩)

theorem Jm6 (lo hi:Option Int) (n:Nat):(sliceBounds lo hi none n).1 = ((HT.sIx n 0 lo:Nat):Int) ∧ (sliceBounds lo hi none n).2.1 = ((HT.sIx n n hi:Nat):Int) ∧ (sliceBounds lo hi none n).2.2 = 1 := by
  refine ⟨?_,?_,rfl⟩
  · cases lo with
    | none => simp [sliceBounds,HT.sIx]
    | some i =>
      simp only [sliceBounds,HT.sIx,Option.getD_none,show (1:Int) > 0 by decide,if_true]
      by_cases h:i < 0
      · simp only [h,if_true] <;> omega
      · simp only [h,if_false] <;> omega
  · cases hi with
    | none => simp [sliceBounds,HT.sIx]
    | some i =>
      simp only [sliceBounds,HT.sIx,Option.getD_none,show (1:Int) > 0 by decide,if_true]
      by_cases h:i < 0
      · simp only [h,if_true] <;> omega
      · simp only [h,if_false] <;> omega
theorem Jl0 (its:List Value) (lo hi:Option Int):slicePick its.toArray lo hi none = ((its.drop (HT.sIx its.length 0 lo)).take (HT.sIx its.length its.length hi - HT.sIx its.length 0 lo)).toArray := by
  obtain ⟨h1,h2,h3⟩ := Jm6 lo hi its.toArray.size
  unfold slicePick
  rw [h1,h2,h3]
  simp only [sliceRange_one,pick_run,List.size_toArray] <;> rfl
def rSlL (K:PySem.W.Frag):V → Option Int → Option Int → Hp → VK → Prop := fun x lo hi H Q => ∃ a xs,x = .ref a ∧ SqL K H a xs ∧ ∀ p,H p = none → Q (.ref p) (upd H p (.lst (cutV xs lo hi)))
theorem Jx8:SlR X (rSlL X.K) := by
  intro pins s σ H x v vl vu lo hi sl Q I rx hs pl pu h
  obtain ⟨a,xs,rfl,hx,q⟩ := h
  cases rx
  obtain ⟨its,r,ht,hz⟩ := I.list hx
  have hlen := r.length
  refine ⟨"list",_,slot_list_getitem.lookup,ht.isList.typeIs,?_⟩
  refine wpAny_getItem_list_slice ht.isList hs pl pu .none (by simp) ?_ (by rw [List.size_toArray] <;> omega)
  rw [Jl0,← hlen]
  refine ⟨.ref s.heap.objs.size,_,I.laid (t' := s.toks) (o := .lst (cutV xs lo hi)) (fun b ob q => Heap.get?_push_of_some _ q) (Nat.le_refl _) ?_,rfl,q _ (I.hok.fresh (Nat.le_refl _))⟩
  exact ⟨Nat.le_trans (Jk1 xs lo hi) hz,_,0,(r.drop (HT.sIx xs.length 0 lo)).take (HT.sIx xs.length xs.length hi - HT.sIx xs.length 0 lo),Heap.get?_push_size _ rfl⟩

def Jmn:V → Bool
  | .non => true
  | .bl _ => true
  | .int _ => true
  | .str _ => true
  | _ => false
def eqV:V → V → Bool
  | .non,.non => true
  | .bl a,.bl b => a == b
  | .bl a,.int b => (if a then 1 else 0) == b
  | .int a,.bl b => a == (if b then 1 else 0)
  | .int a,.int b => a == b
  | .str a,.str b => a == b
  | _,_ => false
theorem JCg {A:Around} {s:Shared} {y x:V} {u v:Value} (ry:RelV y u) (rx:RelV x v) (fy:Jmn y = true) (fx:Jmn x = true):SeqAt.EqAt A s u v (eqV y x) := by
  cases y with
  | non =>
    cases ry
    cases x with
    | non => cases rx; exact SeqAt.EqAt.same _
    | bl b => cases rx; exact SeqAt.EqAt.none_bool b
    | int b => obtain ⟨t,rfl⟩ := rx; exact SeqAt.EqAt.none_int b t
    | str b => obtain ⟨t,rfl⟩ := rx; exact SeqAt.EqAt.none_str b t
    | _ => exact absurd (show false = true from fx) Bool.false_ne_true
  | bl a =>
    cases ry
    cases x with
    | non => cases rx; exact SeqAt.EqAt.bool_none a
    | bl b => cases rx; exact SeqAt.EqAt.bool_bool a b
    | int b => obtain ⟨t,rfl⟩ := rx; exact SeqAt.EqAt.bool_int a b t
    | str b => obtain ⟨t,rfl⟩ := rx; exact SeqAt.EqAt.bool_str a b t
    | _ => exact absurd (show false = true from fx) Bool.false_ne_true
  | int a =>
    obtain ⟨t',rfl⟩ := ry
    cases x with
    | non => cases rx; exact SeqAt.EqAt.int_none a t'
    | bl b => cases rx; exact SeqAt.EqAt.int_bool a t' b
    | int b => obtain ⟨t,rfl⟩ := rx; exact SeqAt.EqAt.int_int a t' b t
    | str b => obtain ⟨t,rfl⟩ := rx; exact SeqAt.EqAt.int_str a t' b t
    | _ => exact absurd (show false = true from fx) Bool.false_ne_true
  | str a =>
    obtain ⟨t',rfl⟩ := ry
    cases x with
    | non => cases rx; exact SeqAt.EqAt.str_none a t'
    | bl b => cases rx; exact SeqAt.EqAt.str_bool a t' b
    | int b => obtain ⟨t,rfl⟩ := rx; exact SeqAt.EqAt.str_int a t' b t
    | str b => obtain ⟨t,rfl⟩ := rx; exact SeqAt.EqAt.str_str a t' b t
    | _ => exact absurd (show false = true from fx) Bool.false_ne_true
  | _ => exact absurd (show false = true from fy) Bool.false_ne_true
def eqU (x:V) (u:Value):Bool := match u with
  | .none => eqV .non x
  | .bool b => eqV (.bl b) x
  | .int i _ => eqV (.int i) x
  | .str z _ => eqV (.str z) x
  | _ => false
theorem Jxn {x y:V} {u:Value} (r:RelV y u) (f:Jmn y = true):eqU x u = eqV y x := by
  cases y with
  | non => cases r; rfl
  | bl b => cases r; rfl
  | int i => obtain ⟨t,rfl⟩ := r; rfl
  | str z => obtain ⟨t,rfl⟩ := r; rfl
  | _ => exact absurd (show false = true from f) Bool.false_ne_true
theorem Jpt {x:V}:∀ {xs:List V} {us:List Value},Vals xs us → xs.all Jmn = true → us.any (eqU x) = xs.any fun y => eqV y x
  | _,_,.nil,_ => rfl
  | y :: xs,u :: us,.cons r t,f => by
    rw [List.all_cons,Bool.and_eq_true] at f
    rw [List.any_cons,List.any_cons,Jxn r f.1,Jpt t f.2]
theorem Jmc {A:Around} {s:Shared} {x:V} {v:Value} (rx:RelV x v) (fx:Jmn x = true):∀ {xs:List V} {us:List Value},Vals xs us → xs.all Jmn = true → ∀ u ∈ us,SeqAt.EqAt A s u v (eqU x u)
  | _,_,.nil,_ => fun u hu => by cases hu
  | y :: xs,u :: us,.cons r t,f => fun u' hu => by
    rw [List.all_cons,Bool.and_eq_true] at f
    rcases List.mem_cons.mp hu with rfl | hu
    · rw [Jxn r f.1]; exact JCg r rx f.1 fx
    · exact Jmc rx fx t f.2 u' hu
def inV (x:V) (xs:List V):Bool := xs.any fun y => eqV y x
def rIn (K:PySem.W.Frag) (neg:Bool):R2 := fun x y H Q => ∃ p xs,y = .ref p ∧ (SqL K H p xs ∨ SqT K H p xs) ∧ Jmn x = true ∧ xs.all Jmn = true ∧ Q (.bl (if neg then !inV x xs else inV x xs)) H
theorem Jne:OpR X (compareOp .In) (rIn X.K false) := by
  intro pins s σ H x y v u Q I rx ry h
  obtain ⟨p,xs,rfl,hq,fx,fs,q⟩ := h
  cases ry
  rcases hq with hq | hq
  · obtain ⟨its,r,pl,hz⟩ := I.list hq
    refine SeqAt.in_listAt (eqU x) pl.isList (fun w hw => Jmc rx fx r fs w (by simpa using hw)) ⟨.bl _,H,I,rfl,?_⟩
    rw [show its.toArray.any (eqU x) = its.any (eqU x) by simp,Jpt r fs]
    exact q
  · obtain ⟨its,r,pl,hz⟩ := I.tuple hq
    refine SeqAt.in_tupleAt (eqU x) pl (fun w hw => Jmc rx fx r fs w (by simpa using hw)) ⟨.bl _,H,I,rfl,?_⟩
    rw [show its.toArray.any (eqU x) = its.any (eqU x) by simp,Jpt r fs]
    exact q
theorem Jbk:Jd1 X (.builtin "len") (fun xs H Q => ∃ p ys,xs = [.ref p] ∧ (SqL X.K H p ys ∨ SqT X.K H p ys) ∧ Q (.int ys.length) H) := by
  intro pins s σ H xs us Q I r h
  obtain ⟨p,ys,rfl,hq,q⟩ := h
  obtain ⟨u,rfl,rx⟩ := vals1 r
  cases rx
  have hn := Jnq
  rcases hq with hq | hq
  · obtain ⟨its,r',pl,hz⟩ := I.list hq
    have hlen := r'.length
    exact Calls.call_len_list pl.isList (by simp only [List.size_toArray] <;> omega) ⟨.int ys.length,H,I.tok _,⟨s.toks + 1,by rw [List.size_toArray,hlen]⟩,q⟩
  · obtain ⟨its,r',pl,hz⟩ := I.tuple hq
    have hlen := r'.length
    exact len_tuple pl (by simp only [List.size_toArray] <;> omega) ⟨.int ys.length,H,I.tok _,⟨s.toks + 1,by rw [List.size_toArray,hlen]⟩,q⟩
theorem Jd1.or {f:Value} {r r':List V → Hp → VK → Prop} (h:Jd1 X f r) (h':Jd1 X f r'):Jd1 X f (fun xs H Q => r xs H Q ∨ r' xs H Q) := by
  intro pins s σ H xs us Q I rs q
  rcases q with q | q
  · exact h pins s σ H xs us Q I rs q
  · exact h' pins s σ H xs us Q I rs q
theorem Jcc:Jd1 X (.type "tuple") (fun xs H Q => ∃ p ys,xs = [.ref p] ∧ ((SqL X.K H p ys ∧ ∀ l,H l = none → Q (.ref l) (upd H l (.tup ys))) ∨ (SqT X.K H p ys ∧ Q (.ref p) H))) := by
  intro pins s σ H xs us Q I r h
  obtain ⟨p,ys,rfl,h⟩ := h
  obtain ⟨u,rfl,rx⟩ := vals1 r
  cases rx
  rcases h with ⟨hq,q⟩ | ⟨hq,q⟩
  · obtain ⟨its,r',pl,hz⟩ := I.list hq
    have hlen := r'.length
    refine call_tuple_list pl.isList (fun h' kp => ?_) (by simp only [List.size_toArray] <;> omega)
    have I1:Inv X pins σ H { s with heap := h' } := I.kept (t' := s.toks) kp
    have I2:Inv X pins σ (upd H h'.objs.size (.tup ys)) { s with heap := h'.push { cls := .type "tuple",data := .seq its.toArray } } :=
      I1.laid (t' := s.toks) (fun b o e => Heap.get?_push_of_some _ e) (Nat.le_refl _) (show Jek X.prog X.w _ _ _ (.tup ys) from ⟨hz,its,r',IsTup.new _ _⟩)
    exact ⟨.ref h'.objs.size,_,I2,rfl,q _ (I1.hok.fresh (Nat.le_refl _))⟩
  · obtain ⟨its,r',pl,hz⟩ := I.tuple hq
    exact call_tuple_same pl ⟨.ref p,H,I,rfl,q⟩

def tyV (K:PySem.W.Frag) (T:String) (x:V) (H:Hp):Prop := match x with
  | .str _ => T = "str"
  | .int _ => T = "int"
  | .ref p => (T = "list" ∧ ∃ xs,SqL K H p xs) ∨ (T = "tuple" ∧ ∃ o,K.lookup p = some o ∧ o.cls = .type "tuple" ∧ o.dict = none) ∨
      (T = "dict" ∧ ((∃ kvs,H p = some (.dK kvs)) ∨ ∃ kvs,H p = some (.dT kvs))) ∨ (T = "set" ∧ ∃ S n,H p = some (.set S n))
  | _ => False
theorem JAf {pins:List (Addr × Obj)} {σ:St} {H:Hp} {s:Shared} {T:String} {x:V} {v:Value} (I:Inv X pins σ H s) (r:RelV x v) (ty:tyV X.K T x H) :
    s.TypeIs v T ∧ ∀ a,v = .ref a → ∃ ob,s.heap.get? a = some ob ∧ ob.dict = none := by
  cases x with
  | str z =>
    obtain ⟨t,rfl⟩ := r
    cases (show T = "str" from ty)
    exact ⟨typeIs_str s z t,fun _ e => nomatch e⟩
  | int i =>
    obtain ⟨t,rfl⟩ := r
    cases (show T = "int" from ty)
    exact ⟨typeIs_int s i t,fun _ e => nomatch e⟩
  | ref p =>
    cases r
    rcases ty with ⟨rfl,xs,hq⟩ | ⟨rfl,o,hk,hc,hd⟩ | ⟨rfl,hk⟩ | ⟨rfl,S,n,hk⟩
    · obtain ⟨its,_,pl,_⟩ := I.list hq
      refine ⟨pl.isList.typeIs,fun a e => ?_⟩
      cases e
      obtain ⟨o,n,e,c,hd,_⟩ := pl
      exact ⟨o,e,hd⟩
    · refine ⟨⟨o,I.kIn p o hk,hc⟩,fun a e => ?_⟩
      cases e
      exact ⟨o,I.kIn _ o hk,hd⟩
    · have z:∃ o,s.heap.get? p = some o ∧ o.ExactDict := by
        rcases hk with ⟨kvs,hk⟩ | ⟨kvs,hk⟩
        · obtain ⟨_,_,_,_,o,_,_,e,ex,_⟩ := I.hok p _ hk
          exact ⟨o,e,ex⟩
        · obtain ⟨_,_,_,_,o,_,_,e,ex,_⟩ := I.hok p _ hk
          exact ⟨o,e,ex⟩
      obtain ⟨o,e,ex⟩ := z
      refine ⟨⟨o,e,ex.1⟩,fun a e2 => ?_⟩
      cases e2
      exact ⟨o,e,ex.2.1⟩
    · obtain ⟨o,_,_,_,e,ex,_⟩ := I.hok p _ hk
      refine ⟨⟨o,e,ex.1⟩,fun a e2 => ?_⟩
      cases e2
      exact ⟨o,e,ex.2.1⟩
  | _ => exact False.elim ty
def tBM (K:PySem.W.Frag) (T:String) (r:V → List V → Hp → VK → Prop) (to:TE) (t:TA):TE := fun σ H Q => to σ H fun x H1 => tyV K T x H1 ∧ t σ H1 fun xs H2 => r x xs H2 Q
variable {o e:Expr} {es:List Expr} {to:TE} {t:TA} {name:Str} {apos cpos:Pos} {T id:String} {r:V → List V → Hp → VK → Prop}
theorem JDr (pa:PlainAttrs T) (slot:Slot T name id) (hty:typeOf (.builtin id) = pure (.type "method_descriptor")) (hm:MtR X id r) (ho:PE X o to) (ha:PA X (e :: es) t)
    (hbase:attributeBase o name X.env (eval o X.env) = eval o X.env := by rfl)
    (hfew:((backTo cpos (starEach (e :: es) X.env)).all (fun x => !x.1) && (backToKw cpos (keywordEach [] X.env)).all (fun x => x.1.isSome)
      && decide ((e :: es).length + ([]:List Keyword).length + (if ([]:List Keyword).isEmpty then 0 else 1) < 30)) = true := by rfl)
    (hline:(apos.endLine == cpos.line) = true := by rfl) (hs:starEach (e :: es) X.env = (false,eval e X.env) :: starEach es X.env := by rfl) (hplain:(backTo cpos (starEach es X.env)).any (·.1) = false := by rfl) :
    PE X (.Call (.Attribute o name apos) (e :: es) [] cpos) (tBM X.K T r to t) := by
  intro pins s σ H Q I h
  refine wpAny_Call_method_late hbase hfew hline rfl (thn (ho pins s σ H _ I h) fun v s1 ⟨x,H1,I1,r1,ty,q1⟩ => ?_)
  obtain ⟨h1,h2⟩ := JAf I1 r1 ty
  refine ⟨T,id,pa,slot,hty,h1,h2,?_⟩
  have hA := ha cpos pins s1 σ H1 _ I1 q1
  rw [hs] at hA ⊢
  refine Calls.callWith_builtin (by show (false || (backTo cpos (starEach es X.env)).any (·.1)) = false; rw [hplain] <;> rfl) (Calls.evalArgs_plain ?_)
  exact thn hA fun us s2 ⟨vs,H2,I2,r2,q2⟩ => hm pins s2 σ H2 x vs v us Q I2 r1 r2 q2
/- xs.append(e), list.index on a module's tuple .. are MtR facts of 06m -/
end
end L2

namespace L2
open PySem PySem.Spec PyProof.Rows

def MtM (X:Cx) (id:String) (r:V → List V → Hp → VK → Prop):Prop :=
  ∀ (pins:List (Addr × Obj)) (s:Shared) (σ:St) (H:Hp) (x:V) (xs:List V) (v:Value) (us:List Value) (Q:VK),Inv X pins σ H s → RelV x v → Vals xs us → r x xs H Q →
    wpAny (model X.prog X.w) X.A (call (.builtin id) (v :: us)) (EP X pins σ Q) X.xe s

theorem Vals.one:∀ {x:V} {us:List Value},Vals [x] us → ∃ u,us = [u] ∧ RelV x u
  | _,_,.cons r .nil => ⟨_,rfl,r⟩
theorem Vals.two:∀ {x y:V} {us:List Value},Vals [x,y] us → ∃ u v,us = [u,v] ∧ RelV x u ∧ RelV y v
  | _,_,_,.cons r (.cons q .nil) => ⟨_,_,rfl,r,q⟩
theorem Vals.zero:∀ {us:List Value},Vals [] us → us = []
  | _,.nil => rfl
theorem Vals.eraseIdx:∀ {xs:List V} {us:List Value} (i:Nat),Vals xs us → Vals (xs.eraseIdx i) (us.eraseIdx i)
  | _,_,_,.nil => .nil
  | _,_,0,.cons _ t => t
  | _,_,i + 1,.cons r t => .cons r (Vals.eraseIdx i t)
theorem Vals.reverse {xs:List V} {us:List Value} (h:Vals xs us):Vals xs.reverse us.reverse := by
  induction h with
  | nil => exact .nil
  | cons r t ih => rw [List.reverse_cons,List.reverse_cons]; exact Vals.append ih (.cons r .nil)
theorem Vals.rep {xs:List V} {us:List Value} (h:Vals xs us):∀ k:Nat,Vals (List.replicate k xs).flatten (List.replicate k us).flatten
  | 0 => .nil
  | k + 1 => by
    rw [List.replicate_succ,List.replicate_succ,List.flatten_cons,List.flatten_cons]
    exact Vals.append h (Vals.rep h k)
theorem foldl_rep (its:List Value):∀ (k:Nat) (acc:List Value),
    List.foldl (fun x1 x2 => x1 ++ x2) acc.toArray (List.replicate k its.toArray) = (acc ++ (List.replicate k its).flatten).toArray
  | 0,acc => by simp
  | k + 1,acc => by
    have e:acc.toArray ++ its.toArray = (acc ++ its).toArray := by simp
    have e2:(acc ++ its) ++ (List.replicate k its).flatten = acc ++ (List.replicate (k + 1) its).flatten := by
      rw [List.replicate_succ,List.flatten_cons,List.append_assoc]
    rw [← e2,← foldl_rep its k (acc ++ its),← e,List.replicate_succ,List.foldl_cons]

section
variable {X:Cx} {pins:List (Addr × Obj)} {σ:St} {H:Hp} {s:Shared} {l b:Addr} {xs ys zs:List V}

theorem Inv.lset {its its':List Value} {n:Nat} {f:Array Value → Array Value} {t':Nat} (I:Inv X pins σ H s) (hH:H l = some (.lst xs))
    (e:s.heap.get? l = some { cls := .type "list",data := .seq its.toArray n }) (hf:f its.toArray = its'.toArray) (hv:Vals ys its') (hz:ys.length ≤ sizeLine) :
    Inv X pins σ (upd H l (.lst ys)) { s with heap := s.heap.update l (Obj.mapSeq f),toks := t' } := by
  have q := PySem.IsL.update e f
  rw [hf] at q
  refine I.write (x := l) (e := l) (by rw [hH]; exact trivial) (.inl rfl) (fun b' u hb hu => (Heap.get?_update_other s.heap (Obj.mapSeq f) (Ne.symm hb)).trans hu) ⟨_,q⟩ ?_
  exact ⟨hz,its',_,hv,q⟩
theorem Inv.lnew {its:List Value} {t':Nat} (I:Inv X pins σ H s) (hv:Vals ys its) (hz:ys.length ≤ sizeLine) :
    Inv X pins σ (upd H s.heap.objs.size (.lst ys)) { s with heap := s.heap.push { cls := .type "list",data := .seq its.toArray },toks := t' } :=
  I.laid (fun _ _ q => Heap.get?_push_of_some _ q) (Nat.le_refl _) ⟨hz,its,0,hv,Heap.get?_push_size _ rfl⟩
theorem Inv.fresh (I:Inv X pins σ H s):H s.heap.objs.size = none := I.hok.fresh (Nat.le_refl _)
theorem Inv.lstM (I:Inv X pins σ H s) (hH:H l = some (.lst xs)):xs.length ≤ sizeLine ∧ ∃ (its:List Value) (n:Nat),Vals xs its ∧ xs.length = its.length ∧ s.heap.get? l = some { cls := .type "list",data := .seq its.toArray n } := by
  obtain ⟨z,its,n,r,e⟩ := I.hok l _ hH
  exact ⟨z,its,n,r,r.length,e⟩

theorem Jqm {n:Nat} (h:n ≤ sizeLine):Builtin.List.listTooLong n = false := by
  unfold Builtin.List.listTooLong
  exact decide_eq_false (by omega)
end

section
variable {X:Cx}

def Jsp:V → List V → Hp → VK → Prop := fun x vs H Q => ∃ l xs y,x = .ref l ∧ vs = [y] ∧ H l = some (.lst xs) ∧ xs.length < sizeLine ∧ Q .non (upd H l (.lst (xs ++ [y])))
theorem Jiq:MtM X "list.append" Jsp := by
  intro pins s σ H x vs v us Q I rx rv h
  obtain ⟨l,xs,y,rfl,rfl,hH,hz,q⟩ := h
  cases rx
  obtain ⟨u,rfl,ru⟩ := rv.one
  obtain ⟨z,its,n,r,hl,e⟩ := I.lstM hH
  refine call_meets F.slot_list_append ⟨_,e,rfl⟩ F.entry_list_append (F.args_list_append_2 _ _) (PySem.list_append l its.toArray n u (by rw [List.size_toArray]; omega)) ⟨e,?_⟩
  refine ⟨.non,_,I.lset (its' := its ++ [u]) hH e (by simp) (r.append (.cons ru .nil)) ?_,rfl,q⟩
  rw [List.length_append,List.length_singleton]
  omega

def Jyf:V → List V → Hp → VK → Prop := fun x vs H Q => ∃ l b xs zs,x = .ref l ∧ vs = [.ref b] ∧ H l = some (.lst xs) ∧ H b = some (.lst zs) ∧ xs.length + zs.length ≤ sizeLine ∧ Q .non (upd H l (.lst (xs ++ zs)))
theorem JBs:MtM X "list.extend" Jyf := by
  intro pins s σ H x vs v us Q I rx rv h
  obtain ⟨l,b,xs,zs,rfl,rfl,hH,hB,hz,q⟩ := h
  cases rx
  obtain ⟨u,rfl,ru⟩ := rv.one
  cases ru
  obtain ⟨z,its,n,r,hl,e⟩ := I.lstM hH
  obtain ⟨z2,its2,n2,r2,hl2,e2⟩ := I.lstM hB
  have hsz:its.toArray.size + its2.toArray.size ≤ sizeLine := by rw [List.size_toArray,List.size_toArray]; omega
  have hlong:¬ (!its.toArray.isEmpty && Builtin.List.listTooLong (its.toArray.size + its2.toArray.size)) = true := by
    rw [Jqm hsz,Bool.and_false]
    exact Bool.false_ne_true
  refine call_meets F.slot_list_extend ⟨_,e,rfl⟩ F.entry_list_extend (F.args_list_extend_2 _ _)
    (AutoSeq1.list_extend_list_list_0 l its.toArray n b its2.toArray n2 hlong (by rw [List.size_toArray]; omega) (by omega)) ⟨e,e2,?_⟩
  refine ⟨.non,_,I.lset (its' := its ++ its2) hH e (by simp) (r.append r2) ?_,rfl,q⟩
  rw [List.length_append]
  omega

def rCat:R2 := fun x y H Q => ∃ l b xs zs,x = .ref l ∧ y = .ref b ∧ H l = some (.lst xs) ∧ H b = some (.lst zs) ∧ xs.length + zs.length ≤ sizeLine ∧ ∀ p,H p = none → Q (.ref p) (upd H p (.lst (xs ++ zs)))
theorem JBl:OpR X (binaryOp .Add) rCat := by
  intro pins s σ H x y v u Q I rx ry h
  obtain ⟨l,b,xs,zs,rfl,rfl,hH,hB,hz,q⟩ := h
  cases rx
  cases ry
  obtain ⟨z,its,n,r,hl,e⟩ := I.lstM hH
  obtain ⟨z2,its2,n2,r2,hl2,e2⟩ := I.lstM hB
  refine PySem.P.add_list e e2 ?_ (by rw [List.size_toArray,List.size_toArray]; omega)
  have ea:its.toArray ++ its2.toArray = (its ++ its2).toArray := by simp
  rw [ea]
  exact ⟨.ref _,_,I.lnew (t' := s.toks) (r.append r2) (by rw [List.length_append]; omega),rfl,q _ I.fresh⟩
def rRep:R2 := fun x y H Q => ∃ l k xs,x = .ref l ∧ y = .int k ∧ H l = some (.lst xs) ∧ -(2 ^ 63) ≤ k ∧ k < 2 ^ 63 ∧ xs.length * k.toNat ≤ sizeLine ∧
  ∀ p,H p = none → Q (.ref p) (upd H p (.lst (List.replicate k.toNat xs).flatten))
theorem len_rep {α:Type} (xs:List α) (k:Nat):(List.replicate k xs).flatten.length = k * xs.length := by
  induction k with
  | zero => simp
  | succ k ih => rw [List.replicate_succ,List.flatten_cons,List.length_append,ih,Nat.succ_mul,Nat.add_comm]
theorem JBf:OpR X (binaryOp .Mult) rRep := by
  intro pins s σ H x y v u Q I rx ry h
  obtain ⟨l,k,xs,rfl,rfl,hH,h1,h2,hz,q⟩ := h
  cases rx
  obtain ⟨t,rfl⟩ := ry
  obtain ⟨z,its,n,r,hl,e⟩ := I.lstM hH
  have hlen:its.toArray.size * k.toNat ≤ sizeLine := by rw [List.size_toArray,← hl]; exact hz
  have hcap:¬ its.toArray.size * k.toNat > (2 ^ 63 - 1) / 8 := by
    have:(sizeLine:Nat) ≤ (2 ^ 63 - 1) / 8 := by decide
    omega
  have hfit:¬ (!Builtin.List.listFitsIndex k) = true := by
    rw [fitsIndex_both h1 h2]
    exact Bool.false_ne_true
  have hlong:¬ Builtin.List.listTooLong (its.toArray.size * k.toNat) = true := by
    rw [Jqm hlen]
    exact Bool.false_ne_true
  have hnew:List.foldl (fun x1 x2 => x1 ++ x2) #[] (List.replicate (if its.toArray.isEmpty = true then 0 else k.toNat) its.toArray) = (List.replicate k.toNat its).flatten.toArray := by
    have f0:∀ m:Nat,List.foldl (fun x1 x2 => x1 ++ x2) #[] (List.replicate m its.toArray) = (List.replicate m its).flatten.toArray := fun m => by
      have := foldl_rep its m []
      rw [List.nil_append] at this
      exact this
    rw [f0]
    cases its with
    | nil => simp
    | cons a r' => rw [if_neg (by simp)]
  refine wpAny_binaryOp_repeat_ref (T := "list") (U := "int") (by decide) ⟨_,e,rfl⟩ (fun s' => typeIs_int s' k t) noFill_list_mul F.fills_int_mul F.slot_int_rmul repeat_list F.slot_int_index.lookup
    (call_meets F.slot_int_rmul (typeIs_int s k t) F.entry_int_rmul (F.args_int_rmul_2 _ _) (int___rmul___int_list k t l its.toArray n)
      ⟨e,rfl,⟨_,e,rfl⟩,call_meets F.slot_list_mul ⟨_,e,rfl⟩ F.entry_list_mul (F.args_list_mul_2 _ _) (AutoListH.list___mul___list_int_3 l its.toArray n k t hfit hcap hlong) ⟨e,?_⟩⟩)
  rw [hnew]
  exact ⟨.ref _,_,I.lnew (t' := s.toks) (r.rep k.toNat) (by rw [len_rep,Nat.mul_comm]; exact hz),rfl,q _ I.fresh⟩

end

section
variable {prog:Program} {w:World} {A:Around} {E:Value → Shared → Prop} {s:Shared}
set_option maxRecDepth 100000 in
end

section
variable {X:Cx}
end
end L2

namespace Att
open PySem PySem.W PySem.Calls PyProof.Rows

theorem Jkr {P:Params} {h:Heap}:∀ (ns:List Int) (vs:List Value),WellAll P h vs (ns.map WData.int) → IntsAre vs ns := by
  intro ns
  induction ns with
  | nil =>
    intro vs w
    rw [List.map_nil] at w
    cases w
    exact .nil
  | cons n ns ih =>
    intro vs w
    rw [List.map_cons] at w
    cases w with
    | cons a b =>
      cases a
      exact .cons _ _ (ih _ b)

theorem Jsm {l:OpenLaw} {n:Nat} (hn:l.most = some n) {P:Params} {h:Heap} {args:List WData} {vals:List Value}
    (hpre:l.row.toRowW.claim.pre args = true) (hwl:WellAll P h vals args) :
    ∃ a vs ns,vals = [Value.ref a] ∧ args = [WData.list (ns.map WData.int)] ∧ h.get? a = some { cls := .type "list",data := .seq vs.toArray } ∧ IntsAre vs ns ∧ ns.length ≤ n := by
  have hsh:WShape.hasAll [] args [.list .int] = true := (pre_splitW hpre).1
  have hc:l.pre.holds [] { args := args } = true := (pre_splitW hpre).2
  obtain ⟨d,r,rfl,h1,h2⟩ := hasAllW_cons hsh
  obtain rfl := hasAllW_nil h2
  obtain ⟨xs,rfl,h3⟩ := hasW_list h1
  obtain ⟨ns,rfl⟩ := items_int h3
  have hlen:ns.length ≤ n := by
    unfold OpenLaw.pre at hc
    have h4:(WTm.not (.lt (.lit (.int (n:Int))) (.len (.arg 0)))).holds [] { args := [.list (ns.map .int)] } = true := by
      have h4 := (holds_andW hc).1
      rw [hn] at h4
      exact h4
    have h5 := condW_of h4 (w_not (w_lt w_lit (w_len_list (w_arg rfl))))
    rw [List.length_map] at h5
    refine Nat.le_of_not_lt fun q => ?_
    have q':(n:Int) < ((ns.length:Nat):Int) := by omega
    first
      | (rw [decide_eq_true q'] at h5; exact absurd h5 (by decide))
      | (simp at h5; omega)
  cases hwl with
  | cons w1 w2 =>
    cases w2
    cases w1 with
    | list ho hall => exact ⟨_,_,ns,rfl,rfl,ho,Jkr ns _ hall,hlen⟩

theorem Jsu (l:OpenLaw) (args:List WData):l.row.toRowW.claim.post args (.bool true) args = true :=
  postW_of (r := l.row.toRowW) (X := (true == true))
    (show WShape.has [] (.bool true) .bool = true by first | rfl | decide | simp [WShape.has,WShape.arms,WShape.armsAll])
    (show (WTm.eq .res (.lit (.bool true))).value [] { args := args,res := some (.bool true),after := args } = some (.bool (true == true)) from w_eq_bool (w_res rfl) w_lit) rfl

theorem Jrq {R:WRecords} {cl:Str → Option Addr} {h:Heap} {a:Addr} {ds:List WData} {as:List Addr} (r:ReadsAllW R cl h [.ref a] [.list ds] as) (lo:∀ b ∈ as,(b == sysModules) = false):a ≠ sysModules := by
  cases r with
  | cons r1 _ =>
    cases r1 with
    | list _ _ _ _ => exact fun z => by have := lo a (by simp); rw [z] at this; simp at this
theorem Jpq {l:OpenLaw} {n:Nat} {q:Program} {loose:List Str} {XP:(Str → Option Value) → Heap → Prop} {YP:World → Heap → Prop} {d:DefRec}
    (hn:l.most = some n) (hdf:d.params.defaults = [])
    (call:∀ (w:World) (s₀ s₁:Shared) (mg mb:Str → Option Value) (fa:Addr) (o:Obj) (pm cd doc:Value) (a:Addr) (vs:List Value) (ns:List Int),
      Ground q loose [] XP w s₀ mg mb s₁.heap → YP w s₁.heap →
      s₁.heap.get? fa = some o → o.data = .func (docDef d.name d.params d.body d.scope pm cd doc) → s₁.heap.CodeRec cd d.name → mg d.name = some (.ref fa) →
      s₁.heap.get? a = some { cls := .type "list",data := .seq vs.toArray } → IntsAre vs ns → ns.length ≤ n → a ≠ sysModules → s₁.gens = #[] →
      codeAny (model l.prog w) callerA (.call (.ref fa) ⟨[.ref a],[]⟩) (fun r s' => r = .ok (.ret (.bool true)) ∧ OldK s₁.heap s'.heap ∧ s'.os = s₁.os ∧ AllBare s'.gens) s₁) :
    WalkO q loose XP YP l.row.toRowW d [] (fun f vs => PySem.call f vs) := by
  intro w s₀ s₁ mg mb G Y fa o pm cd doc dV kV ho hd hcd hD hmg hg args vals as hpre hlay hrd hwl hlo
  obtain rfl:dV = .none := Dflts.none hD hdf
  obtain rfl:kV = .none := Dflts.noKw hD
  obtain ⟨a,vs,ns,rfl,rfl,hobj,hints,hlen⟩ := Jsm hn hpre hwl
  refine enter_call (codeAny_mono (call w s₀ s₁ mg mb fa o pm cd doc a vs ns G Y ho (fd_plain hd) hcd hmg hobj hints hlen (Jrq hrd hlo) hg) fun r s' hq => ?_)
  obtain ⟨rfl,h2,h3,h4⟩ := hq
  exact ⟨.inl ⟨.bool true,.bool true,[],rfl,fun _ => rfl,.bool true,Jsu l _,fun _ => ⟨List.Pairwise.nil,fun _ hm => (nomatch hm)⟩⟩,h2,h3,h4⟩

section
variable {prog:Program} {w:World} {A:Around} {E:Value → Shared → Prop} {s:Shared} {K:Frag}

end
end Att

namespace L2
open PySem PySem.Spec PyProof.Rows

theorem Jkb:∀ {vs:List Value} {ns:List Int},IntsAre vs ns → Vals (ns.map V.int) vs
  | _,_,.nil => .nil
  | _,_,.cons n t h => .cons ⟨t,rfl⟩ (Jkb h)

def Only (H:Hp):Prop := ∀ b,H b = none ∨ ∃ o xs,H b = some (.frz o (.lst xs))

theorem Jvv {P:Program} {w:World} {K:PySem.W.Frag} {mg mb:Str → Option Value} {CX:CXT} {k:Nat} {fa a:Addr} {fd:FuncData} {x:Str} {sp:Sp} {s₁:Shared} {vs:List Value} {ns:List Int}
    (KX:K.In s₁.heap) (hns:s₁.heap.Ns mainGlobals mg) (hb:s₁.heap.Ns builtinsNs mb) (hbb:∀ x:Str,x ≠ "__name__" → mb x = bootBuiltins x) (hlim:s₁.heap.NoLimit) (hg:s₁.gens = #[])
    (ha:s₁.heap.get? a = some { cls := .type "list",data := .seq vs.toArray }) (hi:IntsAre vs ns) (hl:ns.length ≤ sizeLine) (hasy:a ≠ sysModules) (hr:Room k callerA)
    (F:∀ base:Heap,K.In base → base.Ns mainGlobals mg → FnOk P w K mg base CX k fa fd [x] sp) (hbind:∀ (s:Shared) (u:Value),BindsTo s fd ⟨[u],[]⟩ [(x,u)])
    (hsp:∀ H:Hp,Only H → SqL K H a (ns.map V.int) → sp [.ref a] H (fun v _ => v = .bl true) fun _ _ _ => False)
    (hCX:∀ H e s',CX [] H s₁ (fun _ _ _ => False) e s' → False) :
    codeAny (model P w) callerA (.call (.ref fa) ⟨[.ref a],[]⟩) (fun r s' => r = .ok (.ret (.bool true)) ∧ OldK s₁.heap s'.heap ∧ s'.os = s₁.os ∧ AllBare s'.gens) s₁ := by
  have rv := Jkb hi
  have lenV := hi.length
  -- from an abstract heap in which nothing but the script may be tracked
  have core:∀ H:Hp,Only H → SqL K H a (ns.map V.int) → HOk P w H s₁.heap → (∀ b,H b ≠ none → b = a) → (H a ≠ none → K.lookup a = none) →
      codeAny (model P w) callerA (.call (.ref fa) ⟨[.ref a],[]⟩) (fun r s' => r = .ok (.ret (.bool true)) ∧ OldK s₁.heap s'.heap ∧ s'.os = s₁.os ∧ AllBare s'.gens) s₁ := by
    intro H hO hS hok hA hK
    have base_of:∀ {b:Addr} {o:Obj},s₁.heap.get? b = some o → H b = none → (hidT s₁.heap H).get? b = some o := fun e n => Jwj e n
    have noA:∀ {b:Addr} {o:Obj} {es:Array DictEntry} {ep:Nat},s₁.heap.get? b = some o → o.data = .dict es ep → H b = none := fun {b o es ep} e d => by
      cases q:H b with
      | none => rfl
      | some u =>
        have e':b = a := hA b (by rw [q]; simp)
        subst e'
        rw [ha] at e; cases e
        have d':Data.seq vs.toArray _ = Data.dict es ep := d
        cases d'
    have nsK:∀ {b:Addr} {m:Str → Option Value},s₁.heap.Ns b m → (hidT s₁.heap H).Ns b m := fun {b m} ⟨o,es,ep,e,d,r⟩ => ⟨o,es,ep,base_of e (noA e d),d,r⟩
    have hKb:K.In (hidT s₁.heap H) := fun b o e => base_of (KX b o e) (by
      cases q:H b with
      | none => rfl
      | some u =>
        have e':b = a := hA b (by rw [q]; simp)
        subst e'
        rw [hK (by rw [q]; simp)] at e; cases e)
    have hM:Mod K mg (hidT s₁.heap H) := ⟨hKb,nsK hns,⟨mb,nsK hb,hbb⟩,let ⟨mc,h1,h2⟩ := hlim; ⟨mc,nsK h1,h2⟩⟩
    have e0:Env0 P w K mg (hidT s₁.heap H) callerA [] s₁ H := ⟨rfl,hM,fun b o e => Jy0 e,Nat.le_of_eq (Jtt _ _),trivial,fun b hb => absurd (show b ∈ ([]:List Addr) from hb) (by simp),hok,.of_eq hg,Classical.byContradiction fun z => hasy (hA _ z).symm⟩
    refine codeAny_mono ((F _ hKb (nsK hns)).run callerA [] s₁ H ⟨[.ref a],[]⟩ [.ref a] [.ref a] _ _ hr e0 (hbind s₁ (.ref a)) (.cons rfl .nil) (hsp H hO hS)) fun r s' h => ?_
    cases r with
    | error e => exact (hCX H e s' h).elim
    | ok fl =>
      cases fl with
      | next => exact False.elim h
      | brk => exact False.elim h
      | cont => exact False.elim h
      | ret u =>
        obtain ⟨v,H',os,bare,un,hok',r',q⟩ := h
        have q':v = .bl true := q
        subst q'
        obtain rfl:u = Value.bool true := r'
        refine ⟨rfl,OldK.of_keep fun b o e => ?_,os,bare⟩
        cases q:H b with
        | none => exact un.keep b o e q (by intro z; exact absurd (show b ∈ ([]:List Addr) from z) (by simp)) (by simp)
        | some u =>
          rcases hO b with z | ⟨ob,xs,z⟩
          · rw [q] at z; cases z
          · have z2 := un.frzs b ob _ z
            obtain ⟨e1,_⟩ := hok b _ z
            obtain ⟨e2,_⟩ := hok' b _ z2
            rw [e] at e1; cases e1
            exact e2
  cases hk:K.lookup a with
  | some o =>
    -- the script is one of the module's own objects
    have e := KX a o hk
    rw [ha] at e
    cases e
    refine core (fun _ => none) (fun _ => .inl rfl) (.inr ⟨_,vs.toArray,_,hk,rfl,rfl,rfl,by rw [List.size_toArray,lenV]; exact hl,by simpa using rv⟩) (fun b u z => by have z':(none:Option HO) = some u := z; cases z') (fun b z => absurd rfl z) fun z => absurd rfl z
  | none =>
    refine core (fun b => if b = a then some (.frz { cls := .type "list",data := .seq vs.toArray } (.lst (ns.map V.int))) else none) (fun b => ?_) (.inl (.inr ⟨{ cls := .type "list",data := .seq vs.toArray },if_pos rfl⟩)) (fun b u z => ?_) (fun b z => ?_) fun _ => hk
    · by_cases hb:b = a
      · exact .inr ⟨_,_,if_pos hb⟩
      · exact .inl (if_neg hb)
    · by_cases hb:b = a
      · have z' := (if_pos hb).symm.trans z
        cases z'
        subst hb
        exact ⟨ha,by rw [List.length_map]; exact hl,vs,_,rv,ha⟩
      · have z' := (if_neg hb).symm.trans z
        cases z'
    · by_cases hb:b = a
      · exact hb
      · exact absurd (if_neg hb) z
end L2

namespace L2
open PySem PySem.Spec PyProof.Rows

abbrev KOf {K:PySem.W.Frag} {h:Heap} (_:K.In h):PySem.W.Frag := K

theorem walk_of {l:PySem.W.OpenLaw} {n k:Nat} {q:Program} {loose:List Str} {XP:(Str → Option Value) → Heap → Prop} {YP:World → Heap → Prop} {d:DefRec} {K:Params → PySem.W.Frag} {CX:World → CXT} {sp:World → Sp} {x:Str}
    (hn:l.most = some n) (hn2:n ≤ sizeLine) (hdf:d.params.defaults = []) (hr:Room k callerA)
    (hY:∀ (w:World) (h:Heap),YP w h → (K w.params).In h)
    (F:∀ (w:World) (mg:Str → Option Value) (fa:Addr) (h:Heap),(K w.params).In h → h.Ns mainGlobals mg → mg d.name = some (.ref fa) →
      ∃ fd:FuncData,(∀ (s:Shared) (u:Value),BindsTo s fd ⟨[u],[]⟩ [(x,u)]) ∧
        ∀ base:Heap,(K w.params).In base → base.Ns mainGlobals mg → FnOk l.prog w (K w.params) mg base (CX w) k fa fd [x] (sp w))
    (hsp:∀ (w:World) (H:Hp) (a:Addr) (ns:List Int),ns.length ≤ n → Only H → SqL (K w.params) H a (ns.map V.int) → sp w [.ref a] H (fun v _ => v = .bl true) fun _ _ _ => False)
    (hCX:∀ (w:World) (H:Hp) (s:Shared) (e:Value) (s':Shared),CX w [] H s (fun _ _ _ => False) e s' → False) :
    PySem.W.WalkO q loose XP YP l.row.toRowW d [] (fun f vs => PySem.call f vs) := by
  refine Att.Jpq hn hdf fun w s₀ s₁ mg mb fa o pm cd doc a vs ns G Y ho hd hcd hmg hobj hints hlen hasy hg => ?_
  have KX := hY w _ Y
  obtain ⟨fd,hb,hF⟩ := F w mg fa _ KX G.T.g hmg
  exact Jvv KX G.T.g G.T.b G.T.builtins G.T.nolimit hg hobj hints (Nat.le_trans hlen hn2) hasy hr hF hb (fun H hO hS => hsp w H a ns hlen hO hS) fun H e s' => hCX w H s₁ e s'
theorem Jus {l:PySem.W.OpenLaw} {n k:Nat} {q:Program} {loose:List Str} {XP:(Str → Option Value) → Heap → Prop} {YP:World → Heap → Prop} {d:DefRec} {K:Params → PySem.W.Frag} {CX:CXT} {sp:PySem.W.Frag → Sp} {x:Str}
    (hn:l.most = some n) (hn2:n ≤ sizeLine) (hdf:d.params.defaults = []) (hr:Room k callerA)
    (hY:∀ (w:World) (h:Heap),YP w h → (K w.params).In h)
    (F:∀ (w:World) (mg:Str → Option Value) (fa:Addr) (h:Heap),(K w.params).In h → h.Ns mainGlobals mg → mg d.name = some (.ref fa) →
      ∃ fd:FuncData,(∀ (s:Shared) (u:Value),BindsTo s fd ⟨[u],[]⟩ [(x,u)]) ∧
        ∀ base:Heap,(K w.params).In base → base.Ns mainGlobals mg → FnOk l.prog w (K w.params) mg base CX k fa fd [x] (sp (K w.params)))
    (hsp:∀ (K:PySem.W.Frag) (H:Hp) (a:Addr) (ns:List Int),ns.length ≤ n → Only H → SqL K H a (ns.map V.int) → sp K [.ref a] H (fun v _ => v = .bl true) fun _ _ _ => False)
    (hCX:∀ (H:Hp) (s:Shared) (e:Value) (s':Shared),CX [] H s (fun _ _ _ => False) e s' → False) :
    PySem.W.WalkO q loose XP YP l.row.toRowW d [] (fun f vs => PySem.call f vs) :=
  walk_of (K := K) (CX := fun _ => CX) (sp := fun w => sp (K w.params)) hn hn2 hdf hr hY F (fun w H a ns h1 h2 h3 => hsp (K w.params) H a ns h1 h2 h3) fun _ H s e s' => hCX H s e s'
end L2

/- THE LAST THEOREM (shape; LID, My.* are yours):
   My.Adr: a structure of the addresses that your layer names (classes, functions); My.Txt K t: a structure (Prop) of the equations over K;
   My.txt_mk : {K} {implicit addresses ..} (e1 : nsIn K mainGlobals "law" = some (some (.ref f))) (e2 : K.lookup f = some ⟨oc, od, .func (fnOf "law" "law" params body scope dV kV doc pm an cdv ct), sl⟩) (e3 : codeIn K cdv "law" = true) .. : ∃ t, My.Txt K t

set_option maxRecDepth 100000 in
set_option maxHeartbeats 0 in
theorem PySem.Challenge.cw_LID_holds : PySem.Challenge.rw_LID.Holds := by
  w_on; o_law; k_head; (case hw => w_witness2)
  k_fill
  refine L2.walk_of (l := PySem.Challenge.rw_LID) (n := 63) (k := 40) (x := "script") (CX := fun w => ..) (sp := fun _ => My.sp_law) rfl (by decide) rfl ⟨rfl, by decide, by decide⟩ (fun w h Y => PySem.W.kIn_of Y) ?F ?S ?C
  case F =>
    intro w mg fa h KX G hmg
    have T : ∃ t, My.Txt (L2.KOf KX) t := by
      dsimp only [L2.KOf]                          -- K must stand as «<heap const> w.params» for k_is
      refine' My.txt_mk ?e1 ?e2 ?e3 ..
      (case e1 => PySem.W.k_is)                    -- in the order: a name -> its address -> its object -> its parts
      (case e2 => PySem.W.k_is)
      ..
    obtain ⟨t, T⟩ := T
    have e0 := hmg.symm.trans (PySem.W.mg_of KX G T.law)
    cases e0                                       -- fa is the law's own address
    exact ⟨_, fun s u => .of_eq rfl, fun base kb nb => My.law_fn T kb nb⟩     -- if «.of_eq rfl» comes too early: refine' ⟨_, ?b, fun base kb nb => My.law_fn T kb nb⟩; exact fun s u => .of_eq rfl
  case S => exact fun w H a ns hl hO hS => ..
  case C => exact ..
(the tactic k_is has no namespace: write k_is) -/

namespace L2
open PySem PySem.Spec PyProof.Rows

def Jbo (s:Stmt):Arguments := match s with
  | .FunctionDef _ a _ _ _ _ _ _ _ _ => a
  | _ => { posonlyargs := [],args := [],vararg := none,kwonlyargs := [],kw_defaults := [],kwarg := none,defaults := [] }
def Jbf (s:Stmt):List Stmt := match s with
  | .FunctionDef _ _ b _ _ _ _ _ _ _ => b
  | _ => []
def Jai (s:Stmt):Scope := match s with
  | .FunctionDef _ _ _ _ _ _ sc _ _ _ => sc
  | _ => { kind := .function,names := [],isGenerator := false,isCoroutine := false }

abbrev CX0:CXT := fun _ _ _ _ _ _ => False
abbrev E0:XK := fun _ _ _ => False
theorem JDt {X:Cx}:Passes CX0 X E0 := fun _ _ _ _ _ _ _ h => h.elim

structure Fun (K:PySem.W.Frag) (x qual:Str) (st:Stmt) (f:Addr) (fd:FuncData):Prop where
  ex:∃ (oc:Value) (od:Option Addr) (kV doc pm:Value) (an:Option Addr) (cdv ct:Value) (osl:Array (Option Value)),
    fd = PySem.W.fnOf x qual (Jbo st) (Jbf st) (Jai st) .none kV doc pm an cdv ct ∧ K.lookup f = some ⟨oc,od,.func fd,osl⟩ ∧ PySem.W.codeIn K cdv qual = true
  kp:PySem.W.keepIn K (.ref f) = true
section
variable {P:Program} {w:World} {K:PySem.W.Frag} {mg:Str → Option Value} {base:Heap}
theorem Fun.ok {x qual:Str} {st:Stmt} {f:Addr} {fd:FuncData} {N ps:List Str} {k:Nat} {sp:Sp} (F:Fun K x qual st f fd) (S:Jbp N ps (Jai st)) (len:∀ vs H Q E,sp vs H Q E → vs.length = ps.length)
    (hbody:∀ (cdv:Value) (A:Around) (outer:List Env) (s:Shared) (H:Hp) (vs:List V) (Q:VK) (E:XK),Room k (A.deeper (envOfC qual (Jai st) s.heap.objs.size f cdv)) → sp vs H Q E →
      ∃ t,PSs (cxOf CX0 P w K mg base N qual (Jai st) f cdv A outer s H E).nox (Jbf st) t ∧ t { nx := fun _ H' => Q .non H',rt := Q } (start N vs) H):FnOk P w K mg base CX0 (k + 1) f fd ps sp := by
  obtain ⟨oc,od,kV,doc,pm,an,cdv,ct,osl,rfl,lk,hcd⟩ := F.ex
  refine JD4 lk hcd S len fun A outer s H vs Q E hr hsp => ?_
  obtain ⟨t,h,q⟩ := hbody cdv A outer s H vs Q E hr hsp
  exact ⟨t,h.nox,q⟩
theorem Fun.binds {x qual:Str} {st:Stmt} {f:Addr} {fd:FuncData} {ps:List Str} (F:Fun K x qual st f fd)
    (h:∀ (kV doc pm:Value) (an:Option Addr) (cdv ct:Value) (us:List Value),us.length = ps.length → bindArgs (PySem.W.fnOf x qual (Jbo st) (Jbf st) (Jai st) .none kV doc pm an cdv ct) ⟨us,[]⟩ = pure (ps.zip us)):Binds K fd ps [] := by
  obtain ⟨oc,od,kV,doc,pm,an,cdv,ct,osl,rfl,lk,hcd⟩ := F.ex
  exact .all (h kV doc pm an cdv ct)
theorem Jcr {x qual:Str} {st:Stmt} {f:Addr} {oc:Value} {od an:Option Addr} {osl:Array (Option Value)} {kV doc pm cdv ct:Value} (l:K.lookup f = some ⟨oc,od,.func (PySem.W.fnOf x qual (Jbo st) (Jbf st) (Jai st) .none kV doc pm an cdv ct),osl⟩)
    (c:PySem.W.codeIn K cdv qual = true) (k:PySem.W.keepIn K (.ref f) = true):Fun K x qual st f (PySem.W.fnOf x qual (Jbo st) (Jbf st) (Jai st) .none kV doc pm an cdv ct) := ⟨⟨oc,od,kV,doc,pm,an,cdv,ct,osl,rfl,l,c⟩,k⟩
end
theorem Jm5 {n:Nat} (h:n ≤ 1000):n < sizeLine := Nat.lt_of_le_of_lt h (by decide)

section
variable {X:Cx}
end

def Same (H H':Hp):Prop := ∀ b o,H b = some o → H' b = some o
theorem Same.refl (H:Hp):Same H H := fun _ _ h => h
theorem Same.trans {H H1 H2:Hp} (a:Same H H1) (b:Same H1 H2):Same H H2 := fun c o h => b c o (a c o h)
theorem Same.free {H H':Hp} (e:Same H H') {l:Addr} (h:H' l = Option.none):H l = Option.none := by
  cases q:H l with
  | none => rfl
  | some o =>
    rw [e l o q] at h
    cases h
theorem Same.seq {K:PySem.W.Frag} {H H':Hp} {a:Addr} {xs:List V} (e:Same H H') (h:SqL K H a xs):SqL K H' a xs := by
  rcases h with (h | ⟨o,h⟩) | h
  · exact .inl (.inl (e _ _ h))
  · exact .inl (.inr ⟨o,e _ _ h⟩)
  · exact .inr h

end L2
end
section
namespace SetP
open PySem

def Rise (xs:Array Nat):Prop := xs.toList.Pairwise (· < ·)
theorem Ju3:Rise #[] := List.Pairwise.nil
theorem Jrh (n:Nat):Rise (Array.range n) := by
  unfold Rise
  rw [Array.toList_range]
  exact List.pairwise_lt_range
theorem Rise.lt {xs:Array Nat} (h:Rise xs) {i k:Nat} (hik:i < k) (hk:k < xs.size):xs.getD i 0 < xs.getD k 0 := by
  have q := List.pairwise_iff_getElem.mp h i k (by rw [Array.length_toList]; omega) (by rw [Array.length_toList]; exact hk) hik
  rw [Array.getD_eq_getD_getElem?,Array.getD_eq_getD_getElem?,Array.getElem?_eq_getElem (by omega),Array.getElem?_eq_getElem hk]
  simpa using q
theorem Rise.le {xs:Array Nat} (h:Rise xs) {i k:Nat} (hik:i ≤ k) (hk:k < xs.size):xs.getD i 0 ≤ xs.getD k 0 := by
  rcases Nat.lt_or_eq_of_le hik with z | z
  · exact Nat.le_of_lt (h.lt z hk)
  · rw [z]; exact Nat.le_refl _

theorem Jpl {xs:Array Nat} {j:Nat} (h:Rise xs):∀ (fuel lo hi:Nat),lo ≤ hi → hi ≤ xs.size → hi - lo ≤ fuel → (∀ i,i < lo → xs.getD i 0 < j) → (∀ i,hi ≤ i → i < xs.size → j ≤ xs.getD i 0) →
    SetTable.below.go xs j fuel lo hi ≤ xs.size ∧ (∀ i,i < SetTable.below.go xs j fuel lo hi → xs.getD i 0 < j) ∧ ∀ i,SetTable.below.go xs j fuel lo hi ≤ i → i < xs.size → j ≤ xs.getD i 0
  | 0,lo,hi,h1,h2,h3,h4,h5 => by
    have e:lo = hi := by omega
    subst e
    unfold SetTable.below.go
    exact ⟨h2,h4,h5⟩
  | fuel + 1,lo,hi,h1,h2,h3,h4,h5 => by
    unfold SetTable.below.go
    by_cases hlt:lo < hi
    · rw [if_pos hlt]
      have hm:(lo + hi) / 2 < hi := by omega
      have hl:lo ≤ (lo + hi) / 2 := by omega
      have e:xs.getD ((lo + hi) / 2) j = xs.getD ((lo + hi) / 2) 0 := by
        rw [Array.getD_eq_getD_getElem?,Array.getD_eq_getD_getElem?,Array.getElem?_eq_getElem (by omega)]
        rfl
      dsimp only
      rw [e]
      by_cases hc:xs.getD ((lo + hi) / 2) 0 < j
      · rw [if_pos hc]
        exact Jpl h fuel _ hi (by omega) h2 (by omega) (fun i hi' => Nat.lt_of_le_of_lt (h.le (by omega) (by omega)) hc) h5
      · rw [if_neg hc]
        exact Jpl h fuel lo _ (by omega) (by omega) (by omega) h4 (fun i hi' hs => Nat.le_trans (Nat.le_of_not_lt hc) (h.le hi' hs))
    · rw [if_neg hlt]
      have e:lo = hi := by omega
      subst e
      exact ⟨h2,h4,h5⟩
theorem Jjm {xs:Array Nat} {j:Nat} (h:Rise xs):SetTable.below xs j ≤ xs.size ∧ (∀ i,i < SetTable.below xs j → xs.getD i 0 < j) ∧ ∀ i,SetTable.below xs j ≤ i → i < xs.size → j ≤ xs.getD i 0 := by
  unfold SetTable.below
  exact Jpl h xs.size 0 xs.size (Nat.zero_le _) (Nat.le_refl _) (by omega) (fun i hi => absurd hi (Nat.not_lt_zero _)) fun i h1 h2 => absurd h2 (by omega)
theorem Jlv {xs:Array Nat} (h:Rise xs) {i:Nat} (hi:i < xs.size):SetTable.below xs (xs.getD i 0 + 1) = i + 1 := by
  obtain ⟨a,b,c⟩ := Jjm (j := xs.getD i 0 + 1) h
  generalize SetTable.below xs (xs.getD i 0 + 1) = r at a b c
  rcases Nat.lt_trichotomy r (i + 1) with z | z | z
  · have := c i (by omega) hi; omega
  · exact z
  · have h1 := b (i + 1) z
    have h2:xs.getD i 0 < xs.getD (i + 1) 0 := h.lt (Nat.lt_succ_self i) (by omega)
    omega
theorem Jlu {xs:Array Nat} (h:Rise xs):SetTable.below xs 0 = 0 := by
  obtain ⟨a,b,c⟩ := Jjm (j := 0) h
  generalize SetTable.below xs 0 = r at a b c
  cases r with
  | zero => rfl
  | succ r => exact absurd (b 0 (by omega)) (Nat.not_lt_zero _)
theorem Jo0 {xs:Array Nat} {j:Nat} (h:Rise xs) (hn:xs[SetTable.below xs j]? ≠ some j):Rise (SetTable.insertAt xs (SetTable.below xs j) j) := by
  obtain ⟨a,b,c⟩ := Jjm (j := j) h
  unfold Rise
  rw [SetTable.toList_insertAt]
  generalize SetTable.below xs j = p at a b c hn
  have getT:∀ i,i < xs.size → xs.toList[i]? = some (xs.getD i 0) := fun i hi => by
    rw [Array.getElem?_toList,Array.getD_eq_getD_getElem?,Array.getElem?_eq_getElem hi]; rfl
  refine List.pairwise_append.mpr ⟨h.sublist (List.take_sublist _ _),List.pairwise_cons.mpr ⟨fun y hy => ?_,h.sublist (List.drop_sublist _ _)⟩,fun x hx y hy => ?_⟩
  · obtain ⟨i,hi⟩ := List.mem_iff_getElem?.mp hy
    rw [List.getElem?_drop] at hi
    have hlt:p + i < xs.size := by
      have := (List.getElem?_eq_some_iff.mp hi).1
      rwa [Array.length_toList] at this
    rw [getT _ hlt] at hi
    have e := Option.some.inj hi
    have h1 := c (p + i) (Nat.le_add_right _ _) hlt
    rw [← e]
    rcases Nat.lt_or_eq_of_le h1 with z | z
    · exact z
    · exfalso
      have hp:p < xs.size := by omega
      have h2 := c p (Nat.le_refl _) hp
      have h3 := h.le (Nat.le_add_right p i) hlt
      have h4:xs.getD p 0 = j := by omega
      apply hn
      have := getT p hp
      rw [Array.getElem?_toList] at this
      rw [this,h4]
  · have hxj:x < j := by
      obtain ⟨i,hi⟩ := List.mem_iff_getElem?.mp hx
      have hip:i < p := by
        have := (List.getElem?_eq_some_iff.mp hi).1
        rw [List.length_take] at this; omega
      rw [List.getElem?_take_of_lt hip] at hi
      have hlt:i < xs.size := by
        have := (List.getElem?_eq_some_iff.mp hi).1
        rwa [Array.length_toList] at this
      rw [getT _ hlt] at hi
      rw [← Option.some.inj hi]
      exact b i hip
    rcases List.mem_cons.mp hy with z | z
    · rw [z]; exact hxj
    · obtain ⟨i,hi⟩ := List.mem_iff_getElem?.mp z
      rw [List.getElem?_drop] at hi
      have hlt:p + i < xs.size := by
        have := (List.getElem?_eq_some_iff.mp hi).1
        rwa [Array.length_toList] at this
      rw [getT _ hlt] at hi
      rw [← Option.some.inj hi]
      exact Nat.lt_of_lt_of_le hxj (c (p + i) (Nat.le_add_right _ _) hlt)

def Off (t:SetTable) (j:Nat):Prop := t.place[SetTable.below t.place j]? ≠ some j
theorem Jko {t:SetTable} {j:Nat} (h:∀ i,t.slot j ≠ .live i):Off t j := fun e => by
  apply h (SetTable.below t.place j)
  unfold SetTable.slot
  dsimp only
  rw [e]
  simp
theorem Jkj {t:SetTable} {f:Nat → Int} {h:Int} {j:Nat} {d:Option Nat}:∀ (fuel:Nat) (p:SetTable.Probe),(∀ d,p.dummy = some d → Off t d) → SetTable.probe.go t f h fuel p = some (.empty j d) → Off t j ∧ ∀ d',d = some d' → Off t d'
  | 0,_,_,e => by unfold SetTable.probe.go at e; cases e
  | fuel + 1,p,hp,e => by
    unfold SetTable.probe.go at e
    cases hs:t.slot p.j with
    | empty =>
      rw [hs] at e
      have e' := Option.some.inj e
      cases e'
      exact ⟨Jko (fun i z => by rw [hs] at z; exact SetTable.Slot.noConfusion z),hp⟩
    | dummy =>
      rw [hs] at e
      refine Jkj fuel _ (fun d' hd => ?_) e
      have hd':(t.advance { p with dummy := some p.j }).dummy = some p.j := by
        unfold SetTable.advance; dsimp only; split <;> rfl
      rw [hd'] at hd
      cases hd
      exact Jko fun i z => by rw [hs] at z; cases z
    | live i =>
      rw [hs] at e
      dsimp only at e
      split at e
      · cases e
      · refine Jkj fuel _ (fun d' hd => hp d' ?_) e
        rw [← hd]
        unfold SetTable.advance
        split <;> rfl
theorem Jn0 {t:SetTable} {h:Int} {j:Nat} {b:Bool} (e:t.freeSlot h = some (j,b)):Off t j := by
  unfold SetTable.freeSlot at e
  split at e
  · rename_i j' d q
    unfold SetTable.probe at q
    obtain ⟨o1,o2⟩ := Jkj _ _ (fun d hd => by unfold SetTable.probeStart at hd; cases hd) q
    have e' := Option.some.inj e
    cases d with
    | none => cases e'; exact o1
    | some d => cases e'; exact o2 _ rfl
  · cases e

def TabOk (L:Bool) (t:SetTable):Prop := Rise t.place ∧ t.led = L
theorem TabOk.fresh (L:Bool) (f m:Nat):TabOk L (.fresh f m L) := ⟨Ju3,rfl⟩
theorem TabOk.standIn {L:Bool} {t:SetTable} (h:TabOk L t) (n:Nat):TabOk L (t.standIn n) := ⟨Jrh n,h.2⟩
theorem TabOk.orStandIn {L:Bool} {t:SetTable} (h:TabOk L t) (n:Nat):TabOk L (t.orStandIn n) := by
  unfold SetTable.orStandIn
  split
  · exact h
  · exact h.standIn n
theorem TabOk.Jxz {L:Bool} {t:SetTable} (h:TabOk L t) (b:Bool):TabOk L { t with plain := b } := h
theorem Jrt {L:Bool} {t:SetTable} (h:TabOk L t) (es:Array (Int × Value)) (k:Int) (x:Value):TabOk L (layNew t es k x).2.1 := by
  unfold layNew
  split
  · rename_i slot wasDummy q
    exact TabOk.orStandIn (t := (t.put slot).1) ⟨Jo0 h.1 (Jn0 q),h.2⟩ _
  · exact h.standIn _
theorem Jmd {α:Type} (g:Nat → Option α):∀ l:List Nat,List.Sublist ((l.filterMap fun j => (g j).map (j,·)).map (·.1)) l
  | [] => List.Sublist.slnil
  | j :: r => by
    rw [List.filterMap_cons]
    cases hg:g j with
    | none => exact (Jmd g r).cons j
    | some a => exact (Jmd g r).cons_cons j
theorem Jnd {L:Bool} {t:SetTable} (h:TabOk L t) (es:Array (Int × Value)) (n:Nat):TabOk L (relayAll t es n).2.1 := by
  unfold relayAll
  split
  · rename_i t' order q
    dsimp only
    split
    · unfold SetTable.relaid SetTable.laid at q
      cases ho:SetTable.layClean (SetTable.sizeAbove n - 1) (es.map (·.1)) with
      | none => rw [ho] at q; cases q
      | some owner =>
        rw [ho] at q
        have q' := Option.some.inj q
        cases q'
        refine ⟨?_,h.2⟩
        show List.Pairwise (· < ·) (List.toArray _).toList
        exact List.pairwise_lt_range.sublist (Jmd (fun j => owner.getD j none) _)
    · exact h.standIn _
  · exact h.standIn _
end SetP
end
section
set_option maxRecDepth 100000
namespace SetP
open PySem PyProof.Rows

abbrev Jns (w:World):Bool := !(w.params.followText "set-order")

structure SetT (prog:Program) (w:World) (h:Heap) (a:Addr) (ds:List Int):Prop where
  nd:ds.Nodup
  ex:∃ o es ep t,h.get? a = some o ∧ o.ExactSet ∧ o.data = .set es ep t ∧ ElemsOf (intKind prog w) es.toList ∧ (∀ k,decide (k ∈ ds) = true ↔ ∃ e ∈ es.toList,(intKind prog w).is k e.2 = true) ∧
    es.size < scanBound ∧ t.fits es.size = true ∧ es.size = ds.length ∧ TabOk (Jns w) t
def Jgb (ds:List Int) (k:Int):List Int := if k ∈ ds then ds else ds ++ [k]
theorem Jmx {ds:List Int} (h:ds.Nodup) (k:Int):(Jgb ds k).Nodup := by
  unfold Jgb
  split
  · exact h
  · rename_i hk
    exact List.nodup_append.mpr ⟨h,by simp,fun a ha b hb => by rw [List.mem_singleton] at hb; subst hb; rintro rfl; exact hk ha⟩
theorem Jno {ds:List Int} {k j:Int}:j ∈ Jgb ds k ↔ j ∈ ds ∨ j = k := by
  unfold Jgb
  split
  · rename_i hk
    exact ⟨.inl,fun z => z.elim id fun e => e ▸ hk⟩
  · rw [List.mem_append,List.mem_singleton]
theorem Juh (ds:List Int) (k:Int):(Jgb ds k).length ≤ ds.length + 1 := by
  unfold Jgb
  split
  · omega
  · rw [List.length_append,List.length_singleton]; omega

section
variable {prog:Program} {w:World} {A:Around} {E:Value → Shared → Prop} {s:Shared}

theorem SetT.sameBut {h h':Heap} {a:Addr} {ds:List Int} (x:SetT prog w h a ds) (hs:∀ o,h.get? a = some o → h'.get? a = some o):SetT prog w h' a ds := by
  obtain ⟨nd,o,es,ep,t,e,r⟩ := x
  exact ⟨nd,o,es,ep,t,hs o e,r⟩
theorem SetT.stored {h:Heap} {a:Addr} {o:Obj} {es es':Array (Int × Value)} {ep:Nat} {t t':SetTable} {ds:List Int} (ho:h.get? a = some o) (hex:o.ExactSet) (hd:o.data = .set es ep t) (nd:ds.Nodup)
    (hel:ElemsOf (intKind prog w) es'.toList) (hm:∀ k,decide (k ∈ ds) = true ↔ ∃ e ∈ es'.toList,(intKind prog w).is k e.2 = true) (hb:es'.size < scanBound) (hf:t'.fits es'.size = true) (hn:es'.size = ds.length) (ht:TabOk (Jns w) t') :
    (h.update a (Obj.putSet es' t')).get? a = some { o with data := .set es' (ep + 1) t' } ∧ SetT prog w (h.update a (Obj.putSet es' t')) a ds := by
  obtain ⟨g,_⟩ := SetOf_store (knd := intKind prog w) ho hex hd hel hm hb hf
  exact ⟨g,nd,_,es',ep + 1,t',g,hex,rfl,hel,hm,hb,hf,hn,ht⟩

theorem Jon {g:Bool → Sem Unit} (hg:∀ (b:Bool) (s₁:Shared) (Q':Unit → Shared → Prop),Q' () s₁ → wpAny (model prog w) A (g b) Q' E s₁)
    {a:Addr} {o:Obj} {es es1:Array (Int × Value)} {ep:Nat} {t t2:SetTable} {ds:List Int} (ho:s.heap.get? a = some o) (hex:o.ExactSet) (hd:o.data = .set es ep t) (nd:ds.Nodup)
    (hel:ElemsOf (intKind prog w) es1.toList) (hm:∀ k,decide (k ∈ ds) = true ↔ ∃ e ∈ es1.toList,(intKind prog w).is k e.2 = true) (hb:es1.size < scanBound) (hf:t2.fits es1.size = true) (hn:es1.size = ds.length) (ht:TabOk (Jns w) t2)
    {dummy:Bool} {R:Option Bool → Shared → Prop} (h:∀ h',Heap.SameBut a s.heap h' → SetT prog w h' a ds → R (some true) { s with heap := h' }) :
    wpAny (model prog w) A (do
        storeSet a es1 t2
        if (!dummy && t2.tooFull) = true then do
            g (relayAll t2 es1 (SetTable.grown es1.size)).2.2
            storeSet a (relayAll t2 es1 (SetTable.grown es1.size)).1 (relayAll t2 es1 (SetTable.grown es1.size)).2.1
            pure (some true)
          else pure (some true)) R E s := by
  obtain ⟨g1,T1⟩ := SetT.stored (prog := prog) (w := w) ho hex hd nd hel hm hb hf hn ht
  have sb1 := Heap.SameBut.update s.heap a (Obj.putSet es1 t2)
  refine wpAny_bind (wpAny_storeSet_of ho hd ?_ (fits_of_scanBound hb))
  split
  · have p := relayAll_perm t2 es1 (SetTable.grown es1.size)
    have f := relayAll_fits t2 es1 (SetTable.grown es1.size)
    have tb := Jnd ht es1 (SetTable.grown es1.size)
    generalize relayAll t2 es1 (SetTable.grown es1.size) = RR at p f tb
    obtain ⟨es2,t3,gave⟩ := RR
    have sz:es2.size = es1.size := by simpa using p.length_eq
    have T2 := SetT.stored (prog := prog) (w := w) (es' := es2) (t' := t3) g1 hex rfl nd (hel.perm p) (fun k => (hm k).trans ⟨fun ⟨e,he,q⟩ => ⟨e,p.mem_iff.mpr he,q⟩,fun ⟨e,he,q⟩ => ⟨e,p.mem_iff.mp he,q⟩⟩)
      (by rw [sz]; exact hb) f (by rw [sz]; exact hn) tb
    refine wpAny_bind (hg _ _ _ (wpAny_bind (wpAny_storeSet_of g1 rfl ?_ (fits_of_scanBound (by show es2.size < _; rw [sz]; exact hb)))))
    exact wpAny_pure (h _ (sb1.trans (Heap.SameBut.update _ a _)) T2.2)
  · exact wpAny_pure (h _ sb1 T1)

theorem Jpu {a:Addr} {ds:List Int} {k:Int} {t0:Tok} {Q:Bool → Shared → Prop} (hS:SetT prog w s.heap a ds) (room:ds.length + 1 < scanBound)
    (h:∀ b h',Heap.SameBut a s.heap h' → SetT prog w h' a (Jgb ds k) → Q b { s with heap := h' }):wpAny (model prog w) A (setAddHashed a (.int k t0) ((intKind prog w).hash k)) Q E s := by
  obtain ⟨nd,o,es,ep,t,ho,hex,hd,hel,hm,hb,hf,hn,ht⟩ := hS
  have hkey:(intKind prog w).is k (.int k t0) = true := intKind_is prog w k t0
  have hsc:(Value.int k t0).scannable = true := rfl
  unfold setAddHashed setAddHashedIn
  refine wpAny_holding (wpAny_bind (wpAny_setState_of ho hd hf ?_))
  dsimp only
  rw [byScan_of hsc hb hel,if_pos rfl]
  unfold setAddByScan
  refine wpAny_bind (wpAny_bind (wpAny_rule (wpAny_bind (wpAny_setScan_of hkey ho hd hf hel ?_))))
  cases hr:List.findIdx? (fun e => (intKind prog w).is k e.2) es.toList with
  | some j =>
    obtain ⟨hj,hpj,_⟩ := List.findIdx?_eq_some_iff_getElem.mp hr
    have hk:k ∈ ds := of_decide_eq_true ((hm k).mpr ⟨es.toList[j],List.getElem_mem hj,hpj⟩)
    refine wpAny_pure (wpAny_pure ?_)
    have q := h false s.heap (Heap.SameBut.refl a s.heap) (by
      have e:Jgb ds k = ds := by unfold Jgb; rw [if_pos hk]
      rw [e]; exact ⟨nd,o,es,ep,t,ho,hex,hd,hel,hm,hb,hf,hn,ht⟩)
    cases s; exact q
  | none =>
    have hk:k ∉ ds := fun z => by
      obtain ⟨e,he,hp⟩ := (hm k).mp (decide_eq_true z)
      have q := List.findIdx?_eq_none_iff.mp hr e he
      rw [hp] at q; cases q
    have eA:Jgb ds k = ds ++ [k] := by unfold Jgb; rw [if_neg hk]
    have p := layNew_perm t es ((intKind prog w).hash k) (.int k t0)
    have f := layNew_fits t es ((intKind prog w).hash k) (.int k t0)
    have tb := Jrt ht es ((intKind prog w).hash k) (.int k t0)
    generalize layNew t es ((intKind prog w).hash k) (.int k t0) = LL at p f tb
    obtain ⟨es1,t1,dummy,gave⟩ := LL
    dsimp only at p f tb ⊢
    rw [Array.toList_push] at p
    have hel1:ElemsOf (intKind prog w) es1.toList := (hel.push hkey hsc).perm p
    have sz:es1.size = (Jgb ds k).length := by
      have q := p.length_eq
      rw [Array.length_toList,List.length_append,List.length_singleton,Array.length_toList] at q
      rw [q,eA,List.length_append,List.length_singleton,hn]
    have hm1:∀ j,decide (j ∈ Jgb ds k) = true ↔ ∃ e ∈ es1.toList,(intKind prog w).is j e.2 = true := fun j => by
      rw [← mem_push_iff (S := fun k' => decide (k' ∈ ds)) hkey hm p j]
      simp only [decide_eq_true_eq,Bool.or_eq_true,Jno]
    have hb1:es1.size < scanBound := by rw [sz,eA,List.length_append,List.length_singleton]; exact room
    refine wpAny_bind ?_
    have gw:∀ (b:Bool) (s₁:Shared) (Q':Unit → Shared → Prop),Q' () s₁ → wpAny (model prog w) A (match b with | true => rule "set.scan.the-table-gave-way" | false => pure ()) Q' E s₁ := fun b s₁ Q' q => by
      cases b
      · exact wpAny_pure q
      · exact wpAny_rule q
    refine gw _ _ _ ?_
    split
    · refine wpAny_bind ?_
      rw [hashByValue_scannable 8 hsc]
      refine wpAny_pure (Jon gw ho hex hd (Jmx nd k) hel1 hm1 hb1 ?_ sz ?_ fun h' sb T => wpAny_pure (h true h' sb T))
      · split
        · exact f
        · exact SetTable.fits_plain_off f
      · split
        · exact tb
        · exact tb.Jxz false
    · refine wpAny_bind (wpAny_pure ?_)
      rw [if_pos rfl]
      exact Jon gw ho hex hd (Jmx nd k) hel1 hm1 hb1 f sz tb fun h' sb T => wpAny_pure (h true h' sb T)
end
end SetP
end
section
set_option maxRecDepth 100000
namespace SetP
open PySem PyProof.Rows

theorem Jn6:entryFor table "set.update.loop" = some Builtin.«set.update.loop» := entryFor_of_tree (by kernel_rfl)
theorem Jkk:plainId "set.update.loop" = true := by decide +kernel
def once (ns:List Int):List Int := ns.foldl Jgb []
theorem Js1 (ns:List Int) (k:Int):once (ns ++ [k]) = Jgb (once ns) k := by unfold once; rw [List.foldl_append]; rfl
theorem Jqk:∀ (ns:List Int),(once ns).Nodup ∧ (once ns).length ≤ ns.length ∧ ∀ j,j ∈ once ns ↔ j ∈ ns := by
  intro ns
  have all:∀ (ns ds:List Int),ds.Nodup → (ns.foldl Jgb ds).Nodup ∧ (ns.foldl Jgb ds).length ≤ ds.length + ns.length ∧ ∀ j,j ∈ ns.foldl Jgb ds ↔ j ∈ ds ∨ j ∈ ns := by
    intro ns
    induction ns with
    | nil => intro ds h; exact ⟨h,by simp,fun j => by simp⟩
    | cons n r ih =>
      intro ds h
      obtain ⟨a,b,c⟩ := ih (Jgb ds n) (Jmx h n)
      refine ⟨a,?_,fun j => ?_⟩
      · have := Juh ds n
        rw [List.foldl_cons,List.length_cons]; omega
      · rw [List.foldl_cons,c j,Jno,List.mem_cons]
        constructor
        · rintro ((z | z) | z)
          · exact .inl z
          · exact .inr (.inl z)
          · exact .inr (.inr z)
        · rintro (z | z | z)
          · exact .inl (.inl z)
          · exact .inl (.inr z)
          · exact .inr z
  obtain ⟨a,b,c⟩ := all ns [] List.nodup_nil
  exact ⟨a,by rw [List.length_nil,Nat.zero_add] at b; exact b,fun j => by rw [show once ns = ns.foldl Jgb [] from rfl,c j]; simp⟩

section
variable {prog:Program} {w:World} {A:Around} {E:Value → Shared → Prop} {s:Shared}

theorem Jut {R:Result → Shared → Prop} {S I l:Addr} {items:Array Value} {ns:List Int} (hh:A.handled = none) (hi:IntsAre items.toList ns) (hb:items.size + 1 < scanBound) (hSI:S ≠ I) (hSl:S ≠ l) (hIl:I ≠ l) :
    ∀ (k i:Nat) (s:Shared),items.size - i = k → i ≤ items.size → s.heap.IsListIter I l i → s.heap.IsList l items → SetT prog w s.heap S (once (ns.take i)) →
      (∀ h' tk,(∀ b o,b ≠ S → b ≠ I → s.heap.get? b = some o → h'.get? b = some o) → SetT prog w h' S (once ns) → R (.ok (.ret .none)) { s with heap := h',toks := tk }) →
      codeAny (model prog w) A (.builtin "set.update.loop" ⟨[.ref S,.ref I],[]⟩) R s := by
  have hlen:items.size = ns.length := by have := hi.length; simpa using this
  intro k
  induction k with
  | zero =>
    intro i s hk hi' it il T hR
    have e:i = items.size := by omega
    subst e
    refine codeAny_builtin Jn6 ?_
    rw [Around.under_plainId Jkk _]
    show wpAny _ A.in1 (pyNext (.ref I) >>= _) _ _ s
    refine wpAny_bind (wpAny_pyNext_list_end hh it il (by simp) fun h' eb => ?_)
    show wpAny _ A.in1 (ret Value.none) _ _ _
    refine wpAny_pure (hR h' s.toks (fun b o _ hbI q => eb b o hbI q) ?_)
    rw [List.take_of_length_le (by omega)] at T
    exact T.sameBut fun o q => eb S o hSI q
  | succ k ih =>
    intro i s hk hi' it il T hR
    have hlt:i < items.size := by omega
    refine codeAny_builtin Jn6 ?_
    rw [Around.under_plainId Jkk _]
    show wpAny _ A.in1 (pyNext (.ref I) >>= _) _ _ s
    refine wpAny_bind (wpAny_pyNext_list_item it il (x := items[i]) (by simp [hlt]) fun h1 it1 sb1 => ?_)
    have hn:i < ns.length := by omega
    obtain ⟨t0,hv⟩:∃ t0,items[i] = .int ns[i] t0 := by
      have all:∀ {vs:List Value} {ms:List Int},IntsAre vs ms → ∀ (j:Nat) (h1:j < vs.length) (h2:j < ms.length),∃ t0,vs[j] = .int ms[j] t0 := by
        intro vs ms r
        induction r with
        | nil => intro j h1; simp at h1
        | cons n t _ ih => intro j h1 h2; cases j with
          | zero => exact ⟨t,rfl⟩
          | succ j => exact ih j (by simpa using h1) (by simpa using h2)
      have q := all hi i (by simpa using hlt) hn
      simpa using q
    rw [hv]
    show wpAny _ A.in1 (holding [Value.int ns[i] t0] (setAdd S (.int ns[i] t0)) >>= _) _ _ _
    have T1:SetT prog w h1 S (once (ns.take i)) := T.sameBut fun o q => (sb1.2 S hSI).trans q
    have il1:h1.IsList l items := by
      obtain ⟨o,ho,r⟩ := il
      exact ⟨o,(sb1.2 l hIl.symm).trans ho,r⟩
    refine wpAny_bind (wpAny_holding ?_)
    unfold setAdd
    refine wpAny_holding (wpAny_bind ((intKind prog w).pyHash (k := ns[i]) (intKind_is _ _ _ _) ?_))
    have room:(once (ns.take i)).length + 1 < scanBound := by
      have q := (Jqk (ns.take i)).2.1
      rw [List.length_take] at q
      omega
    refine Jpu (s := { s with heap := h1,toks := s.toks + 1 }) T1 room fun b h2 sb2 T2 => ?_
    have T2':SetT prog w h2 S (once (ns.take (i + 1))) := by
      rw [List.take_succ_eq_append_getElem hn,Js1]; exact T2
    refine wpAny_pure ⟨plainId_quiet Jkk _,ih (i + 1) _ (by omega) hlt ?_ ?_ T2' fun h' tk hk' T' => ?_⟩
    · obtain ⟨o,ho,r⟩ := it1
      exact ⟨o,(sb2.2 I hSI.symm).trans ho,r⟩
    · obtain ⟨o,ho,r⟩ := il1
      exact ⟨o,(sb2.2 l hSl.symm).trans ho,r⟩
    · exact hR h' tk (fun c o hcS hcI q => hk' c o hcS hcI ((sb2.2 c hcS).trans ((sb1.2 c hcI).trans q))) T'

theorem JDw (a:Value) {Q₁:Value → Shared → Prop}
    (h:Q₁ (.ref s.heap.objs.size) { s with heap := s.heap.push { cls := .type "set",dict := none,data := .set #[] 0 (.fresh 0 0 (Jns w)) } }) :
    codeAny (model prog w) A (.call (.builtin "set.__new__") ⟨[.type "set",a],[]⟩) (wants Q₁ E) s := by
  refine codeAny_of_tree ?_
  have hck:checkBuiltinCall "set.__new__" ⟨[.type "set",a],[]⟩ = pure () := by kernel_rfl
  show wpAny _ A.in1 (checkBuiltinCall "set.__new__" ⟨[.type "set",a],[]⟩ >>= fun _ => again (.builtin "set.__new__" ⟨[.type "set",a],[]⟩)) _ _ s
  rw [hck]
  refine wpAny_bind (wpAny_pure (wpAny_pure ⟨plainId_quiet F.plain_set_new _,codeAny_builtin F.entry_set_new ?_⟩))
  rw [Around.under_plainId F.plain_set_new _]
  have hsub := sub_set_self
  unfold Builtin.«set.__new__» Builtin.Frozenset.newClass
  obtain ⟨hp,g,d,tk,os⟩ := s
  dsimp only
  wp_walk
  refine wpAny_askSetting (wpAny_pure ?_)
  simp only [newObj]
  exact wpAny_bind (wpAny_alloc (wpAny_pure (wpAny_pure h)))

theorem Jwh {M:Model} {self a:Value} {Q:Unit → Shared → Prop} (hT:s.TypeIs self "set") (hQ:Q () s):wpAny M A (checkBuiltinCall "set.__init__" ⟨[self,a],[]⟩) Q E s := by
  simp only [checkBuiltinCall,kind_set_init,split_set_init,sig_set_init]
  refine wpAny_bind (wpAny_isInstance hT sub_set_self ?_)
  simp only [Bool.not_true,Bool.false_eq_true,if_false]
  unfold Bind.checkArgs
  dsimp only
  refine wpAny_bind (m := Bind.printed "set" true _ _) (printed_name (by decide) ?_)
  refine wpAny_bind (m := Bind.printed "*" false _ _) (printed_star (self := self) rfl hT fun short => ?_)
  have one:(if (Manifest.Receiver.self == Manifest.Receiver.none) = true then [self,a].length else [self,a].length - 1) = 1 := by
    have z:(Manifest.Receiver.self == Manifest.Receiver.none) = false := by decide
    simp [z]
  rw [one]
  simp only [List.map_nil]
  have z1:(Manifest.ParamKind.posOnly == Manifest.ParamKind.posOnly) = true := by decide
  have z2:(Manifest.ParamKind.posOnly == Manifest.ParamKind.posOrKw) = false := by decide
  have z3:(Manifest.ParamKind.posOnly == Manifest.ParamKind.varPos) = false := by decide
  have fine:Bind.check ⟨.positional,"set","*",.self,[⟨"iterable",.posOnly,false⟩]⟩ "set" short 1 [] = pure () := by
    simp [Bind.check,Bind.checkCount,Bind.isPositional,z1,z2,z3]
  rw [fine]
  exact wpAny_pure hQ

set_option maxHeartbeats 3200000 in
theorem Jx9 {l:Addr} {items:Array Value} {ns:List Int} {Q:Value → Shared → Prop} (hh:A.handled = none) (hl:s.heap.IsList l items) (hi:IntsAre items.toList ns) (hb:items.size + 1 < scanBound)
    (h:∀ h' tk,(∀ b o,s.heap.get? b = some o → h'.get? b = some o) → SetT prog w h' s.heap.objs.size (once ns) → Q (.ref s.heap.objs.size) { s with heap := h',toks := tk }) :
    wpAny (model prog w) A (call (.type "set") [.ref l]) Q E s := by
  have hmade := F.called_set.made
  have hsub := F.called_set.sub
  have h1 := F.called_set.notType
  have h2 := F.called_set.canCreate
  have hct:checkTypeCall "set" ⟨[.ref l],[]⟩ = pure () := by kernel_rfl
  obtain ⟨c,tl,hmro⟩ := F.called_set.mro
  refine wpAny_call (codeAny_of_tree ?_)
  show wpAny _ _ (callAny (.type "set") ⟨[.ref l],[]⟩) _ _ s
  refine wpAny_pure ⟨Code.quiet_builtin _ (by decide +kernel),codeAny_builtin F.entry_type_call ?_⟩
  rw [Around.under_plain (weight_type_call_type "set" [.ref l] []) rfl]
  repeat (any_goals (first | assumption | wp_step))
  refine codeAny_mono (JDw (.ref l) (E := E) (Q₁ := fun obj s₁ => obj = .ref s.heap.objs.size ∧ s₁ = { s with heap := s.heap.push { cls := .type "set",dict := none,data := .set #[] 0 (.fresh 0 0 (Jns w)) } }) ⟨rfl,rfl⟩) fun r s₁ hr => ?_
  cases r with
  | error e => exact hr
  | ok fl =>
    cases fl with
    | ret obj =>
      obtain ⟨rfl,rfl⟩ := hr
      generalize hg1:s.heap.push { cls := .type "set",dict := none,data := .set #[] 0 (.fresh 0 0 (Jns w)) } = g1
      have e1:g1.get? s.heap.objs.size = some { cls := .type "set",dict := none,data := .set #[] 0 (.fresh 0 0 (Jns w)) } := hg1 ▸ Heap.get?_push_size _ rfl
      have k1:∀ b o,s.heap.get? b = some o → g1.get? b = some o := fun b o q => hg1 ▸ Heap.get?_push_of_some _ q
      have z1:g1.objs.size = s.heap.objs.size + 1 := by rw [← hg1,Heap.size_push]
      have hT:Shared.TypeIs { s with heap := g1 } (.ref s.heap.objs.size) "set" := ⟨_,e1,rfl⟩
      have hli := F.called_set.init.lookup
      have hbi := F.called_set.init.bind (.ref s.heap.objs.size)
      repeat (any_goals (first | assumption | wp_step))
      refine codeAny_mono (codeAny_call_builtin (R := wants (fun r s₂ => r = .none ∧ ∃ h' tk,s₂ = { s with heap := h',toks := tk } ∧ (∀ b o,s.heap.get? b = some o → h'.get? b = some o) ∧ SetT prog w h' s.heap.objs.size (once ns)) E)
        F.called_set.init.plain F.entry_set_init (Jwh hT ?_)) fun r₂ s₂ hr₂ => ?_
      · obtain ⟨ol,hol,hcl,nl,hdl⟩ := hl
        obtain ⟨ocls,odict,odata,oslots⟩ := ol
        simp only at hcl hdl
        subst hcl hdl
        have q1:g1.get? l = some { cls := .type "list",dict := odict,data := .seq items nl,slots := oslots } := k1 _ _ hol
        have il:g1.IsList l items := ⟨_,q1,rfl,nl,rfl⟩
        have hlS:l < s.heap.objs.size := Heap.lt_size hol
        have hs1:isSubtype (.type "list") (.type "set") = pure false := by rw [isSubtype_type]; kernel_rfl
        have hs2:isSubtype (.type "list") (.type "frozenset") = pure false := by rw [isSubtype_type]; kernel_rfl
        have hs3:(Value.type "list" == Value.type "dict") = false := by decide
        unfold Builtin.«set.__init__» noKeywords Builtin.Frozenset.updateFrom
        generalize hPI:pyIter = PI
        wp_walk
        subst hPI
        refine wpAny_pyIter_list il (wpAny_bind (wpAny_runValue ?_))
        have n1:s.heap.objs.size ≠ g1.objs.size := by rw [z1]; exact Nat.ne_of_lt (Nat.lt_succ_self _)
        have n2:s.heap.objs.size ≠ l := Nat.ne_of_gt hlS
        have n3:g1.objs.size ≠ l := by rw [z1]; exact Nat.ne_of_gt (Nat.lt_succ_of_lt hlS)
        refine Jut (l := l) (items := items) (by simpa using hh) hi hb n1 n2 n3 (items.size - 0) 0 _ (by omega) (Nat.zero_le _) ⟨_,Heap.get?_push_size _ rfl,rfl,rfl⟩ ?_ ?_ ?_
        · obtain ⟨o,ho,r⟩ := il
          exact ⟨o,Heap.get?_push_of_some _ ho,r⟩
        · refine ⟨List.nodup_nil,_,#[],0,_,Heap.get?_push_of_some _ e1,⟨rfl,rfl,rfl⟩,rfl,fun e he => by simp at he,fun k => by simp [once],by decide,by rfl,rfl,TabOk.fresh _ _ _⟩
        · intro h' tk hk T
          show wpAny _ _ _ _ _ _
          refine wpAny_pure ?_
          show wpAny _ _ (ret Value.none) _ _ _
          refine wpAny_pure ⟨rfl,h',tk,rfl,fun b o q => ?_,T⟩
          have hb' := Heap.lt_size q
          exact hk b o (Nat.ne_of_lt hb') (by rw [z1]; exact Nat.ne_of_lt (Nat.lt_succ_of_lt hb')) (Heap.get?_push_of_some _ (k1 b o q))
      · cases r₂ with
        | error e => exact hr₂
        | ok fl₂ =>
          cases fl₂ with
          | ret r =>
            obtain ⟨rfl,h',tk,rfl,hk,T⟩ := hr₂
            repeat (any_goals (first | assumption | wp_step))
            exact h h' tk hk T
          | _ => exact hr₂.elim
    | _ => exact hr.elim
end
end SetP
end
section
set_option maxRecDepth 100000
namespace SetP
open PySem PyProof.Rows

theorem Jjj {α:Type}:∀ (l:List α) (i:Nat) (h:i < l.length),(l[i] :: l.eraseIdx i).Perm l
  | [],i,h => absurd h (by simp)
  | x :: r,0,_ => List.Perm.refl _
  | x :: r,i + 1,h => (List.Perm.swap x _ _).trans (List.Perm.cons x (Jjj r i (by simpa using h)))
theorem Jkl:∀ {ds ns:List Int},ds.Nodup → (∀ k,k ∈ ds → k ∈ ns) → ns.length ≤ ds.length → ns.Perm ds
  | [],ns,_,_,h => by
    have e:ns = [] := List.length_eq_zero_iff.mp (by simpa using h)
    rw [e]
  | d :: r,ns,nd,sub,h => by
    have hd:d ∈ ns := sub d List.mem_cons_self
    have p := List.perm_cons_erase hd
    obtain ⟨h1,h2⟩ := List.nodup_cons.mp nd
    refine p.trans (List.Perm.cons d (Jkl h2 (fun k hk => ?_) ?_))
    · have hne:k ≠ d := fun e => h1 (e ▸ hk)
      exact (List.mem_erase_of_ne hne).mpr (sub k (List.mem_cons_of_mem _ hk))
    · rw [List.length_erase_of_mem hd]
      rw [List.length_cons] at h
      omega
theorem Jsw {α:Type} (next:Nat → Nat):∀ (fuel k:Nat) (left:List α) (out:Array α),left.length = fuel → (pickOrder.go next fuel k left out).toList.Perm (out.toList ++ left)
  | 0,_,left,out,h => by
    have e:left = [] := List.length_eq_zero_iff.mp h
    subst e
    unfold pickOrder.go
    simp
  | fuel + 1,k,left,out,h => by
    unfold pickOrder.go
    have hi:next k % left.length < left.length := Nat.mod_lt _ (by omega)
    rw [List.getElem?_eq_getElem hi]
    dsimp only
    refine (Jsw next fuel (k + 1) _ _ (by rw [List.length_eraseIdx_of_lt hi]; omega)).trans ?_
    rw [Array.toList_push,List.append_assoc]
    exact List.Perm.append_left _ (Jjj _ _ hi)
theorem Jsv {α:Type} (next:Nat → Nat) (xs:Array α):(pickOrder next xs).toList.Perm xs.toList := by
  unfold pickOrder
  simpa using Jsw next xs.size 0 xs.toList #[] (by simp)

section
variable {M:Model} {A:Around} {E:Value → Shared → Prop}
theorem Jrz {src:Source} {n:Nat} {s:Shared} {Q:Nat → Shared → Prop} (hn:n ≠ 0) (h:∀ i d',i < n → Q i { s with drawn := d' }):wpAny M A (choose src n) Q E s :=
  fun _ _ _ => ⟨hn,h _ _ (Nat.mod_lt _ (Nat.pos_of_ne_zero hn))⟩
theorem Ji0 {α:Type}:∀ (n:Nat) (xs:List α) (s:Shared) (Q:List α → Shared → Prop),xs.length ≤ n → (∀ ys d',ys.Perm xs → Q ys { s with drawn := d' }) → wpAny M A (drawOrder n xs) Q E s
  | 0,xs,s,Q,h,q => by
    have e:xs = [] := List.length_eq_zero_iff.mp (by omega)
    subst e
    unfold drawOrder
    exact wpAny_pure (q [] s.drawn (List.Perm.refl _))
  | n + 1,[],s,Q,h,q => by
    unfold drawOrder
    exact wpAny_pure (q [] s.drawn (List.Perm.refl _))
  | n + 1,x :: xs,s,Q,h,q => by
    unfold drawOrder
    refine wpAny_bind (Jrz (by simp) fun i d' hi => ?_)
    rw [List.getElem?_eq_getElem hi]
    dsimp only
    refine wpAny_bind (Ji0 n _ _ _ (by rw [List.length_eraseIdx_of_lt hi]; simp at h ⊢; omega) fun ys d'' p => wpAny_pure (q _ d'' ?_))
    exact (List.Perm.cons _ p).trans (Jjj _ _ hi)
end

theorem Jco:Slot "set_iterator" "__next__" "set_iterator.__next__" :=
  .of (owner := "set_iterator") (n := "__next__") (by rw [typeLookup_type,builtinLookup_eq_fast]; kernel_rfl) (by decide +kernel) (by decide +kernel) (by decide +kernel)
    (by first | exact .inl (by decide +kernel) | exact .inr (by decide +kernel)) (by rw [isSubtype_type]; kernel_rfl)
theorem Jgz:entryFor table "set_iterator.__next__" = some Builtin.«set_iterator.__next__» := entryFor_of_tree (by kernel_rfl)
theorem Jhh (a:Value):argsOk "set_iterator.__next__" ⟨[a],[]⟩ := by unfold argsOk; kernel_rfl
theorem Jk8:entryFor table "set.__iter__" = some Builtin.«frozenset.__iter__» :=
  entryFor_alias (id' := "frozenset.__iter__") (by kernel_rfl) rfl (by decide +kernel) (by kernel_rfl)

def Jj2 (first:Value) (i:Nat) (S:Addr) (n ep:Nat):Obj := { cls := .type "set_iterator",data := .fields #[first,.int i 0,.ref S,.int n 0,.int ep 0] }

inductive Road (w:World) (h:Heap) (es:Array (Int × Value)) (ep:Nat) (t:SetTable) (S it T:Addr) (vs:List Value) (i:Nat):Value → Prop
  | text (k:Int):w.params.followText "set-order" = true → (∀ (j:Nat),vs[j]? = ((pickOrder (w.params.setOrder S ep) es)[j]?).map fun (e:Int × Value) => e.2) → Road w h es ep t S it T vs i (.int k 0)
  | plain:w.params.followText "set-order" = false → (!t.plain && decide (es.size > 1)) = false → TabOk true t → (∀ (j:Nat),vs[j]? = (es[j]?).map fun (e:Int × Value) => e.2) → Road w h es ep t S it T vs i (.int ((if i = 0 then 0 else t.place.getD (i - 1) 0 + 1:Nat):Int) 0)
  | drawn (ps:List Nat):T ≠ it → h.get? T = some { cls := .type "tuple",data := .seq (ps.map fun (p:Nat) => rawInt p).toArray 0 } → (∀ p ∈ ps,p < es.size) → (∀ (j:Nat),vs[j]? = (ps[j]?).bind fun p => (es[p]?).map fun (e:Int × Value) => e.2) → Road w h es ep t S it T vs i (.ref T)
structure Jmy (w:World) (h:Heap) (it S T:Addr) (vs:List Value) (i:Nat):Prop where
  ne:it ≠ S
  ex:∃ o es ep t first,h.get? S = some o ∧ o.data = .set es ep t ∧ t.fits es.size = true ∧ vs.length = es.size ∧ h.get? it = some (Jj2 first i S es.size ep) ∧ Road w h es ep t S it T vs i first

section
variable {prog:Program} {w:World} {A:Around} {E:Value → Shared → Prop} {s:Shared}

theorem Jmy.keep {h h':Heap} {it S T:Addr} {vs:List Value} {i:Nat} (x:Jmy w h it S T vs i) (k:∀ b ∈ [it,S,T],∀ o,h.get? b = some o → h'.get? b = some o):Jmy w h' it S T vs i := by
  obtain ⟨ne,o,es,ep,t,first,a,b,c,d,e,r⟩ := x
  refine ⟨ne,o,es,ep,t,first,k S (by simp) _ a,b,c,d,k it (by simp) _ e,?_⟩
  cases r with
  | text k1 z1 z2 => exact .text k1 z1 z2
  | plain z1 z2 z3 z4 => exact .plain z1 z2 z3 z4
  | drawn ps z1 z2 z3 z4 => exact .drawn ps z1 (k T (by simp) _ z2) z3 z4

theorem JB4 {S:Addr} {ds:List Int} {Q:Value → Shared → Prop} (hS:SetT prog w s.heap S ds)
    (h:∀ h' d' it T vs,(∀ b o,s.heap.get? b = some o → h'.get? b = some o) → s.heap.objs.size ≤ it → (T = S ∨ s.heap.objs.size ≤ T) → Jmy w h' it S T vs 0 → (∃ ns,IntsAre vs ns ∧ ns.Perm ds) → Q (.ref it) { s with heap := h',drawn := d' }) :
    wpAny (model prog w) A (pyIter (.ref S)) Q E s := by
  obtain ⟨nd,o,es,ep,t,ho,hex,hd,hel,hm,hb,hf,hn,ht⟩ := hS
  have hT:s.TypeIs (.ref S) "set" := ⟨o,ho,hex.1⟩
  have hlt := Heap.lt_size ho
  -- the members as ints
  have intsV:∀ (l:List (Int × Value)),ElemsOf (intKind prog w) l → ∃ ns,IntsAre (l.map (·.2)) ns ∧ ∀ k,k ∈ ns ↔ ∃ e ∈ l,(intKind prog w).is k e.2 = true := by
    intro l
    induction l with
    | nil => intro _; exact ⟨[],.nil,fun k => by simp⟩
    | cons e r ih =>
      intro he
      obtain ⟨ns,a,b⟩ := ih he.tail
      obtain ⟨⟨k0,hk0,_⟩,_⟩ := he.head
      obtain ⟨t0,e0⟩ := Value.isInt_shape (show Value.isInt k0 e.2 = true from hk0)
      refine ⟨k0 :: ns,by rw [List.map_cons,e0]; exact .cons k0 t0 a,fun k => ?_⟩
      rw [List.mem_cons,b k]
      constructor
      · rintro (z | ⟨e',he',q⟩)
        · exact ⟨e,List.mem_cons_self,by rw [z]; exact hk0⟩
        · exact ⟨e',List.mem_cons_of_mem _ he',q⟩
      · rintro ⟨e',he',q⟩
        rcases List.mem_cons.mp he' with z | z
        · subst z; exact .inl ((intKind prog w).inj _ _ _ q hk0)
        · exact .inr ⟨e',z,q⟩
  -- any order of the members is the ints in some order
  have fin:∀ (l:List (Int × Value)),l.Perm es.toList → ∃ ns,IntsAre (l.map (·.2)) ns ∧ ns.Perm ds := fun l p => by
    obtain ⟨ns,a,b⟩ := intsV l (hel.perm p)
    refine ⟨ns,a,?_⟩
    have hsub:ds ⊆ ns := fun k hk => (b k).mpr (by
      obtain ⟨e,he,q⟩ := (hm k).mp (decide_eq_true hk)
      exact ⟨e,p.mem_iff.mpr he,q⟩)
    have hle:ns.length ≤ ds.length := by
      have q1:(l.map (·.2)).length = ns.length := IntsAre.length a
      rw [List.length_map] at q1
      exact Nat.le_of_eq (by rw [← q1,p.length_eq,Array.length_toList,hn])
    exact Jkl nd (fun k hk => hsub hk) hle
  refine wpAny_pyIter_slot hT F.slot_set_iter (wpAny_call_entry F.slot_set_iter hT Jk8 ?_ (F.args_set_iter_1 _))
  unfold Builtin.«frozenset.__iter__» Builtin.Frozenset.slot0 slotArgs
  simp only [List.isEmpty_nil,Bool.not_true,Bool.false_eq_true,↓reduceIte,bind_assoc,List.length_nil,bne_self_eq_false]
  unfold Builtin.Frozenset.addrOf Builtin.Frozenset.sizeOf
  refine wpAny_bind (wpAny_pure ?_)
  try dsimp only
  refine wpAny_bind (wpAny_pure ?_)
  refine wpAny_bind (wpAny_bind (wpAny_setEntries_of ho hd hf (wpAny_pure ?_)))
  unfold setDrawn setsByText
  simp only [bind_assoc]
  refine wpAny_bind (wpAny_setState_of ho hd hf ?_)
  refine wpAny_bind (wpAny_askSetting ?_)
  refine wpAny_bind (wpAny_pure (wpAny_bind (wpAny_pure ?_)))
  show wpAny (model prog w) A.in1 (if (!(w.params.followText "set-order") && (!t.plain && decide (es.size > 1))) = true then _ else _) _ _ s
  have len2:∀ (ps:List Nat),ps.Perm (List.range es.size) → ((ps.filterMap fun p => es[p]?)).Perm es.toList ∧ ∀ (j:Nat),((ps.filterMap fun p => es[p]?).map (·.2))[j]? = (ps[j]?).bind fun p => (es[p]?).map fun (e:Int × Value) => e.2 := fun ps p => by
    refine ⟨(p.filterMap _).trans (by rw [filterMap_getElem?_range]),?_⟩
    have all:∀ (ps:List Nat),(∀ p ∈ ps,p < es.size) → ∀ (j:Nat),((ps.filterMap fun p => es[p]?).map (·.2))[j]? = (ps[j]?).bind fun p => (es[p]?).map fun (e:Int × Value) => e.2 := by
      intro ps
      induction ps with
      | nil => intro _ j; simp
      | cons q r ih =>
        intro hq j
        have hq':q < es.size := hq q List.mem_cons_self
        rw [List.filterMap_cons_some (b := es[q]) (by simp [hq'])]
        cases j with
        | zero => simp [hq']
        | succ j => simpa using ih (fun p hp => hq p (List.mem_cons_of_mem _ hp)) j
    exact all ps fun q hq => List.mem_range.mp (p.mem_iff.mp hq)
  split
  · rename_i hc
    refine wpAny_bind (Ji0 es.size (List.range es.size) s _ (by simp) fun ps d' p => ?_)
    obtain ⟨p1,p2⟩ := len2 ps p
    refine wpAny_bind (wpAny_newObj_type ?_ ?_)
    · refine wpAny_bind (wpAny_setEpoch_of (Heap.get?_push_of_some _ ho) hd hf ?_)
      refine wpAny_bind (wpAny_newObj_type (wpAny_pure ⟨_,rfl,"set_iterator",_,⟨_,Heap.get?_push_size _ rfl,rfl⟩,Jco.lookup,?_⟩))
      refine h _ d' _ s.heap.objs.size ((ps.filterMap fun p => es[p]?).map (·.2)) (fun b o' e => Heap.get?_push_of_some _ (Heap.get?_push_of_some _ e)) ?_ (.inr (Nat.le_refl _)) ?_ (fin _ p1)
      · show s.heap.objs.size ≤ (s.heap.push _).objs.size
        rw [Heap.size_push]; exact Nat.le_succ _
      · refine ⟨?_,o,es,ep,t,_,Heap.get?_push_of_some _ (Heap.get?_push_of_some _ ho),hd,hf,?_,Heap.get?_push_size _ rfl,.drawn ps ?_ (Heap.get?_push_of_some _ (Heap.get?_push_size _ rfl)) (fun q hq => List.mem_range.mp (p.mem_iff.mp hq)) p2⟩
        · show (s.heap.push _).objs.size ≠ S
          rw [Heap.size_push]; exact Nat.ne_of_gt (Nat.lt_succ_of_lt hlt)
        · rw [List.length_map,p1.length_eq,Array.length_toList]
        · show s.heap.objs.size ≠ (s.heap.push _).objs.size
          rw [Heap.size_push]; exact Nat.ne_of_lt (Nat.lt_succ_self _)
    · show _ ≤ sizeLine
      rw [List.size_toArray,List.length_map,p.length_eq,List.length_range]
      exact fits_of_scanBound hb
  · rename_i hc
    refine wpAny_bind (wpAny_pure (wpAny_bind (wpAny_setEpoch_of ho hd hf ?_)))
    refine wpAny_bind (wpAny_newObj_type (wpAny_pure ⟨_,rfl,"set_iterator",_,⟨_,Heap.get?_push_size _ rfl,rfl⟩,Jco.lookup,?_⟩))
    by_cases ht':w.params.followText "set-order" = true
    · have pp := Jsv (w.params.setOrder S ep) es
      have q := h (s.heap.push (Jj2 (rawInt 0) 0 S es.size ep)) s.drawn s.heap.objs.size S ((pickOrder (w.params.setOrder S ep) es).toList.map (·.2)) (fun b o' e => Heap.get?_push_of_some _ e) (Nat.le_refl _) (.inl rfl)
        ⟨Nat.ne_of_gt hlt,o,es,ep,t,_,Heap.get?_push_of_some _ ho,hd,hf,by rw [List.length_map,pp.length_eq,Array.length_toList],Heap.get?_push_size _ rfl,.text 0 ht' fun j => by rw [List.getElem?_map,Array.getElem?_toList]⟩ (fin _ pp)
      exact q
    · have hf':w.params.followText "set-order" = false := by simpa using ht'
      have hL:Jns w = true := by show (!_) = true; rw [hf']; rfl
      rw [hL] at ht
      have hdr:(!t.plain && decide (es.size > 1)) = false := by
        rw [hf'] at hc
        simpa using hc
      have q := h (s.heap.push (Jj2 (rawInt 0) 0 S es.size ep)) s.drawn s.heap.objs.size S (es.toList.map (·.2)) (fun b o' e => Heap.get?_push_of_some _ e) (Nat.le_refl _) (.inl rfl)
        ⟨Nat.ne_of_gt hlt,o,es,ep,t,_,Heap.get?_push_of_some _ ho,hd,hf,by rw [List.length_map,Array.length_toList],Heap.get?_push_size _ rfl,.plain hf' hdr ht fun j => by rw [List.getElem?_map,Array.getElem?_toList]⟩ (fin _ (List.Perm.refl _))
      exact q
end
end SetP
end
section
set_option maxRecDepth 100000
namespace SetP
open PySem PyProof.Rows

section
variable {prog:Program} {w:World} {A:Around} {E:Value → Shared → Prop} {s:Shared}

theorem Jlj (first x:Value) (i:Nat) (S:Addr) (n ep:Nat):Obj.mapFields (·.setIfInBounds 0 x) (Jj2 first i S n ep) = Jj2 x i S n ep := rfl
theorem Jrv (first:Value) (i:Nat) (S:Addr) (n ep:Nat):Obj.mapFields (·.setIfInBounds 1 (rawInt ((i:Int) + 1))) (Jj2 first i S n ep) = Jj2 first (i + 1) S n ep := rfl

theorem Jjo {S:Addr} {o:Obj} {es:Array (Int × Value)} {ep slot given:Nat} {t:SetTable} {Q:Option (Value × Nat) → Shared → Prop} (ho:s.heap.get? S = some o) (hd:o.data = .set es ep t) (hf:t.fits es.size = true)
    (z:w.params.followText "set-order" = true) (h:Q (((pickOrder (w.params.setOrder S ep) es)[given]?).map fun e => (e.2,slot)) s):wpAny (model prog w) A (setNext S slot given ep) Q E s := by
  unfold setNext
  refine wpAny_bind (wpAny_setState_of ho hd hf ?_)
  unfold setsByText
  refine wpAny_bind (wpAny_bind (wpAny_askSetting (wpAny_pure ?_)))
  show wpAny _ _ (if (w.params.followText "set-order") = true then _ else _) _ _ s
  rw [if_pos z]
  show wpAny _ _ (if (ep != ep) = true then _ else _) _ _ s
  rw [if_neg (by simp)]
  unfold setWalk
  refine wpAny_bind (wpAny_bind (wpAny_setState_of ho hd hf ?_))
  unfold setsByText
  refine wpAny_bind (wpAny_bind (wpAny_askSetting (wpAny_pure ?_)))
  show wpAny _ _ (if (w.params.followText "set-order") = true then _ else _) _ _ s
  rw [if_pos z]
  exact wpAny_bind (wpAny_askSetting (wpAny_pure (wpAny_pure h)))
theorem Jim {S:Addr} {o:Obj} {es:Array (Int × Value)} {ep slot given:Nat} {t:SetTable} {Q:Option (Value × Nat) → Shared → Prop} (ho:s.heap.get? S = some o) (hd:o.data = .set es ep t) (hf:t.fits es.size = true)
    (z:w.params.followText "set-order" = false) (z2:(!t.plain && decide (es.size > 1)) = false) (z3:t.led = true)
    (h:Q (match es[SetTable.below t.place slot]?,t.place[SetTable.below t.place slot]? with | some (_,x),some j => some (x,j + 1) | _,_ => none) s):wpAny (model prog w) A (setNext S slot given ep) Q E s := by
  unfold setNext
  refine wpAny_bind (wpAny_setState_of ho hd hf ?_)
  unfold setsByText
  refine wpAny_bind (wpAny_bind (wpAny_askSetting (wpAny_pure ?_)))
  show wpAny _ _ (if (w.params.followText "set-order") = true then _ else _) _ _ s
  rw [if_neg (by rw [z]; simp)]
  show wpAny _ _ (if (!t.plain && decide (es.size > 1)) = true then _ else _) _ _ s
  rw [if_neg (by rw [z2]; simp)]
  refine wpAny_bind ?_
  show wpAny _ _ (if (!t.led && !es.isEmpty) = true then _ else _) _ _ s
  rw [if_neg (by rw [z3]; simp)]
  exact wpAny_pure (wpAny_pure h)

theorem Jro {it S T:Addr} {vs:List Value} {i:Nat} {v:Value} {Q:Option Value → Shared → Prop} (x:Jmy w s.heap it S T vs i) (hv:vs[i]? = some v)
    (h:∀ h',Heap.SameBut it s.heap h' → Jmy w h' it S T vs (i + 1) → Q (some v) { s with heap := h' }):wpAny (model prog w) A (pyNext (.ref it)) Q E s := by
  obtain ⟨ne,o,es,ep,t,first,ho,hd,hf,hl,hi,r⟩ := x
  have hT:s.TypeIs (.ref it) "set_iterator" := ⟨_,hi,rfl⟩
  unfold pyNext
  refine wpAny_bind (wpAny_attempt (wpAny_callSpecial?_slot (name := Str.ofString "__next__") hT Jco (wpAny_call_entry Jco hT Jgz ?_ (Jhh _))))
  unfold Builtin.«set_iterator.__next__» slotArgs
  simp only [List.isEmpty_nil,Bool.not_true,Bool.false_eq_true,↓reduceIte,List.length_nil,bne_self_eq_false]
  refine wpAny_bind (wpAny_pure ?_)
  refine wpAny_bind (wpAny_fieldsOf hi rfl ?_)
  show wpAny _ _ (setEntries S >>= _) _ _ s
  refine wpAny_bind (wpAny_setEntries_of ho hd hf ?_)
  show wpAny _ _ (if ((es.size:Int) != (es.size:Int)) = true then _ else _) _ _ s
  rw [if_neg (by simp)]
  have lt:i < vs.length := (List.getElem?_eq_some_iff.mp hv).1
  have upd1:∀ {h1:Heap} {f1:Value},h1.get? it = some (Jj2 f1 i S es.size ep) → (h1.update it (Obj.mapFields (·.setIfInBounds 1 (rawInt ((i:Int) + 1))))).get? it = some (Jj2 f1 (i + 1) S es.size ep) := fun {h1 f1} e => by
    rw [← Jrv f1 i S es.size ep]; exact Heap.get?_update_self _ e rfl
  have upd0:∀ {h1:Heap} {f1 y:Value},h1.get? it = some (Jj2 f1 i S es.size ep) → (h1.update it (Obj.mapFields (·.setIfInBounds 0 y))).get? it = some (Jj2 y i S es.size ep) := fun {h1 f1 y} e => by
    rw [← Jlj f1 y i S es.size ep]; exact Heap.get?_update_self _ e rfl
  cases r with
  | text k z1 z2 =>
    show wpAny _ _ (setNext S k.toNat i ep >>= _) _ _ s
    refine wpAny_bind (Jjo ho hd hf z1 ?_)
    have q := z2 i
    rw [hv] at q
    cases hp:(pickOrder (w.params.setOrder S ep) es)[i]? with
    | none => rw [hp] at q; cases q
    | some e =>
      rw [hp] at q
      have q':v = e.2 := Option.some.inj q
      subst q'
      refine wpAny_bind (wpAny_setField hi rfl (by simp) (wpAny_bind (wpAny_setField (upd0 hi) rfl (by simp) (wpAny_pure ⟨_,rfl,wpAny_pure (h _ ((Heap.SameBut.update ..).trans (Heap.SameBut.update ..)) ⟨ne,o,es,ep,t,_,?_,hd,hf,hl,upd1 (upd0 hi),.text _ z1 z2⟩)⟩))))
      rw [Heap.get?_update_other _ _ ne,Heap.get?_update_other _ _ ne]; exact ho
  | plain z1 z2 z3 z4 =>
    show wpAny _ _ (setNext S (Int.toNat ((if i = 0 then 0 else t.place.getD (i - 1) 0 + 1:Nat):Int)) i ep >>= _) _ _ s
    rw [Int.toNat_natCast]
    refine wpAny_bind (Jim ho hd hf z1 z2 z3.2 ?_)
    have psz:t.place.size = es.size := by
      have q := hf
      simp only [SetTable.fits,Bool.and_eq_true,beq_iff_eq] at q
      exact q.1
    have hb:SetTable.below t.place (if i = 0 then 0 else t.place.getD (i - 1) 0 + 1) = i := by
      cases i with
      | zero => rw [if_pos rfl]; exact Jlu z3.1
      | succ i => rw [if_neg (by omega)]; exact Jlv z3.1 (by omega)
    rw [hb]
    have q := z4 i
    rw [hv] at q
    have hie:i < es.size := by omega
    have hip:i < t.place.size := by omega
    rw [Array.getElem?_eq_getElem hie] at q ⊢
    rw [Array.getElem?_eq_getElem hip]
    have q':v = es[i].2 := Option.some.inj q
    subst q'
    show wpAny _ _ (setField (.ref it) 0 (rawInt ((t.place[i] + 1:Nat):Int)) >>= _) _ _ s
    refine wpAny_bind (wpAny_setField hi rfl (by simp) (wpAny_bind (wpAny_setField (upd0 hi) rfl (by simp) (wpAny_pure ⟨_,rfl,wpAny_pure (h _ ((Heap.SameBut.update ..).trans (Heap.SameBut.update ..)) ⟨ne,o,es,ep,t,_,?_,hd,hf,hl,upd1 (upd0 hi),?_⟩)⟩))))
    · rw [Heap.get?_update_other _ _ ne,Heap.get?_update_other _ _ ne]; exact ho
    · have e:t.place[i] = t.place.getD (i + 1 - 1) 0 := by
        rw [Array.getD_eq_getD_getElem?,Nat.add_sub_cancel,Array.getElem?_eq_getElem hip]; rfl
      have rr:∀ hp:Heap,Road w hp es ep t S it T vs (i + 1) (.int ((t.place[i] + 1:Nat):Int) 0) := fun hp => by
        have r1:Road w hp es ep t S it T vs (i + 1) (.int ((if i + 1 = 0 then 0 else t.place.getD (i + 1 - 1) 0 + 1:Nat):Int) 0) := .plain z1 z2 z3 z4
        rw [if_neg (by omega),← e] at r1
        exact r1
      exact rr _
  | drawn ps z1 z2 z3 z4 =>
    show wpAny _ _ (seqItems? (.ref T) >>= _) _ _ s
    refine wpAny_bind (wpAny_seqItems z2 rfl ?_)
    have q := z4 i
    rw [hv] at q
    cases hp:ps[i]? with
    | none => rw [hp] at q; cases q
    | some p =>
      rw [hp] at q
      have hlt:p < es.size := z3 p (List.mem_of_getElem? hp)
      have q2:some v = (es[p]?).map fun (e:Int × Value) => e.2 := q
      rw [Array.getElem?_eq_getElem hlt] at q2
      have q':v = es[p].2 := Option.some.inj q2
      subst q'
      have hg:((ps.map fun (p:Nat) => rawInt p).toArray)[i]? = some (rawInt p) := by
        rw [List.getElem?_toArray,List.getElem?_map,hp]; rfl
      show wpAny _ _ (match ((ps.map fun (p:Nat) => rawInt p).toArray)[(i:Int).toNat]? with | some (.int place _) => _ | some _ => _ | none => _) _ _ s
      rw [Int.toNat_natCast,hg]
      show wpAny _ _ (setNextDrawn S p ep >>= _) _ _ s
      unfold setNextDrawn
      refine wpAny_bind (wpAny_bind (wpAny_setState_of ho hd hf ?_))
      show wpAny _ _ (if (ep != ep) = true then _ else _) _ _ s
      rw [if_neg (by simp)]
      dsimp only
      rw [Array.getElem?_eq_getElem hlt]
      refine wpAny_pure ?_
      refine wpAny_bind (wpAny_setField hi rfl (by simp) (wpAny_pure ⟨_,rfl,wpAny_pure (h _ (Heap.SameBut.update ..) ⟨ne,o,es,ep,t,_,?_,hd,hf,hl,upd1 hi,.drawn ps z1 ?_ z3 z4⟩)⟩))
      · rw [Heap.get?_update_other _ _ ne]; exact ho
      · rw [Heap.get?_update_other _ _ z1.symm]; exact z2

theorem Js6 {it S T:Addr} {vs:List Value} {Q:Option Value → Shared → Prop} (hh:A.handled = none) (x:Jmy w s.heap it S T vs vs.length)
    (h:∀ h',Heap.ExtBut it s.heap h' → Q none { s with heap := h' }):wpAny (model prog w) A (pyNext (.ref it)) Q E s := by
  obtain ⟨ne,o,es,ep,t,first,ho,hd,hf,hl,hi,r⟩ := x
  have hT:s.TypeIs (.ref it) "set_iterator" := ⟨_,hi,rfl⟩
  unfold pyNext
  refine wpAny_bind (wpAny_attempt (wpAny_callSpecial?_slot (name := Str.ofString "__next__") hT Jco (wpAny_call_entry Jco hT Jgz ?_ (Jhh _))))
  unfold Builtin.«set_iterator.__next__» slotArgs
  simp only [List.isEmpty_nil,Bool.not_true,Bool.false_eq_true,↓reduceIte,List.length_nil,bne_self_eq_false]
  refine wpAny_bind (wpAny_pure ?_)
  refine wpAny_bind (wpAny_fieldsOf hi rfl ?_)
  show wpAny _ _ (setEntries S >>= _) _ _ s
  refine wpAny_bind (wpAny_setEntries_of ho hd hf ?_)
  show wpAny _ _ (if ((es.size:Int) != (es.size:Int)) = true then _ else _) _ _ s
  rw [if_neg (by simp)]
  have stop:∀ {s1:Shared},Heap.ExtBut it s.heap s1.heap → s1 = { s with heap := s1.heap } → wpAny (model prog w) A.in1 (newExc (.type "StopIteration") [] >>= fun e => (raiseNew e:Sem Fin)) (fun fin s' => ∃ v,fin = .done (.ret v) ∧ wpAny (model prog w) A (pure (some v)) Q E s')
      (fun e s' => wpAny (model prog w) A (do if ← isInstance e (.type "StopIteration") then pure none else throw e) Q E s') s1 := fun {s1} eb es1 => by
    refine wpAny_bind ?_
    simp only [newExc,newTuple]
    refine wpAny_bind (wpAny_newObj_type ?_ (by size_fits))
    refine wpAny_bind (m := firstArgMember _ _) (wpAny_of_eq (a := Value.none) (by first | rfl | (simp only [firstArgMember]; rfl)) ?_)
    refine wpAny_newObj_type ?_ (by size_fits)
    simp only [raiseNew]
    refine wpAny_bind (wpAny_handled ?_)
    rw [show A.in1.handled = none from hh]
    refine wpAny_bind (wpAny_pure (wpAny_throw ?_))
    refine wpAny_bind (wpAny_isInstance (T := "StopIteration") (b := true) ⟨_,Heap.get?_push_size _ rfl,rfl⟩ isSubtype_stop ?_)
    rw [if_pos rfl,es1]
    exact wpAny_pure (h _ ((eb.push _).push _))
  cases r with
  | text k z1 z2 =>
    show wpAny _ _ (setNext S k.toNat vs.length ep >>= _) _ _ s
    refine wpAny_bind (Jjo ho hd hf z1 ?_)
    have q := z2 vs.length
    rw [List.getElem?_eq_none (Nat.le_refl _)] at q
    cases hp:(pickOrder (w.params.setOrder S ep) es)[vs.length]? with
    | some e => rw [hp] at q; cases q
    | none =>
      refine wpAny_bind (wpAny_setField hi rfl (by simp) ?_)
      exact stop (s1 := { s with heap := s.heap.update it (Obj.mapFields (·.setIfInBounds 2 Value.none)) }) (Heap.SameBut.update ..).extBut rfl
  | plain z1 z2 z3 z4 =>
    generalize hsl:(if vs.length = 0 then 0 else t.place.getD (vs.length - 1) 0 + 1:Nat) = sl
    show wpAny _ _ (setNext S (Int.toNat (sl:Int)) vs.length ep >>= _) _ _ s
    rw [Int.toNat_natCast]
    refine wpAny_bind (Jim ho hd hf z1 z2 z3.2 ?_)
    have psz:t.place.size = es.size := by
      have q := hf
      simp only [SetTable.fits,Bool.and_eq_true,beq_iff_eq] at q
      exact q.1
    have hb:SetTable.below t.place sl = vs.length := by
      rw [← hsl]
      generalize vs.length = n at hl
      cases n with
      | zero => rw [if_pos rfl]; exact Jlu z3.1
      | succ i => rw [if_neg (by omega)]; exact Jlv z3.1 (by omega)
    rw [hb,hl,Array.getElem?_eq_none (Nat.le_refl _)]
    refine wpAny_bind (wpAny_setField hi rfl (by simp) ?_)
    exact stop (s1 := { s with heap := s.heap.update it (Obj.mapFields (·.setIfInBounds 2 Value.none)) }) (Heap.SameBut.update ..).extBut rfl
  | drawn ps z1 z2 z3 z4 =>
    show wpAny _ _ (seqItems? (.ref T) >>= _) _ _ s
    refine wpAny_bind (wpAny_seqItems z2 rfl ?_)
    have q := z4 vs.length
    rw [List.getElem?_eq_none (Nat.le_refl _)] at q
    have hg:((ps.map fun (p:Nat) => rawInt p).toArray)[vs.length]? = none := by
      rw [List.getElem?_toArray,List.getElem?_map]
      cases hp:ps[vs.length]? with
      | none => rfl
      | some p =>
        rw [hp] at q
        have hlt:p < es.size := z3 p (List.mem_of_getElem? hp)
        have q2:none = (es[p]?).map fun (e:Int × Value) => e.2 := q
        rw [Array.getElem?_eq_getElem hlt] at q2
        cases q2
    show wpAny _ _ (match ((ps.map fun (p:Nat) => rawInt p).toArray)[(vs.length:Int).toNat]? with | some (.int place _) => _ | some _ => _ | none => _) _ _ s
    rw [Int.toNat_natCast,hg]
    refine wpAny_bind (wpAny_setField hi rfl (by simp) ?_)
    have e0:(s.heap.update it (Obj.mapFields (·.setIfInBounds 0 (rawInt 0)))).get? it = some (Jj2 (rawInt 0) vs.length S es.size ep) := by
      rw [← Jlj (.ref T) (rawInt 0) vs.length S es.size ep]; exact Heap.get?_update_self _ hi rfl
    refine wpAny_bind (wpAny_setField e0 rfl (by simp) ?_)
    exact stop (s1 := { s with heap := (s.heap.update it (Obj.mapFields (·.setIfInBounds 0 (rawInt 0)))).update it (Obj.mapFields (·.setIfInBounds 2 Value.none)) }) ((Heap.SameBut.update ..).trans (Heap.SameBut.update ..)).extBut rfl
end
end SetP
end
section
set_option maxRecDepth 100000
namespace SetP
open PySem PyProof.Rows

theorem Jg3:Slot "set_iterator" "__iter__" "set_iterator.__iter__" :=
  .of (owner := "set_iterator") (n := "__iter__") (by rw [typeLookup_type,builtinLookup_eq_fast]; kernel_rfl) (by decide +kernel) (by decide +kernel) (by decide +kernel)
    (by first | exact .inl (by decide +kernel) | exact .inr (by decide +kernel)) (by rw [isSubtype_type]; kernel_rfl)
theorem Jj4:entryFor table "set_iterator.__iter__" = some Builtin.«dict_keyiterator.__iter__» :=
  entryFor_alias (id' := "dict_keyiterator.__iter__") (by kernel_rfl) rfl (by decide +kernel) (by kernel_rfl)
theorem Jk3 (a:Value):argsOk "set_iterator.__iter__" ⟨[a],[]⟩ := by unfold argsOk; kernel_rfl
theorem Jrs:typeLookup (.type "set") "__len__" = pure (some (.builtin "set.__len__")) := F.slot_set_len.lookup

section
variable {prog:Program} {w:World} {A:Around} {E:Value → Shared → Prop} {s:Shared}

theorem Jxx (hh:A.handled = none) (it S T:Addr) (vs:List Value):Walks prog w A it [it,S,T] [it] vs.length (fun i v => vs[i]? = some v) (fun i h => Jmy w h it S T vs i) where
  sub := fun b hb => by simp at hb; subst hb; simp
  frame := fun i h h' x k => x.keep fun b hb o e => k b hb o e
  item := fun i s Q E hi x hQ => by
    have hv:vs[i]? = some vs[i] := List.getElem?_eq_getElem hi
    exact Jro x hv fun h' sb x' => hQ _ h' s.toks hv x' fun b o hb e => (sb.2 b (by simpa using hb)).trans e
  done := fun s Q E x hQ => Js6 hh x fun h' eb => hQ h' s.toks fun b o hb e => eb b o (by simpa using hb) e
  self := fun i s Q E x hQ => by
    obtain ⟨_,o,es,ep,t,first,_,_,_,_,hi,_⟩ := x
    have hT:s.TypeIs (.ref it) "set_iterator" := ⟨_,hi,rfl⟩
    refine wpAny_pyIter_slot hT Jg3 (wpAny_call_entry Jg3 hT Jj4 ?_ (Jk3 _))
    show wpAny _ _ (ret (.ref it)) _ _ s
    exact wpAny_pure ⟨_,rfl,"set_iterator",_,hT,Jco.lookup,hQ⟩

theorem JB9 {S:Addr} {Q:Bool → Shared → Prop} (hT:s.TypeIs (.ref S) "set") (h:Q false s):wpAny (model prog w) A (Builtin.List.listLengthHint (.ref S)) Q E s := by
  unfold Builtin.List.listLengthHint
  refine wpAny_bind (wpAny_specialOf hT Jrs ?_)
  have hs:splitId "set.__len__" = some ("set","__len__") := by decide +kernel
  dsimp only
  rw [hs]
  dsimp only
  refine wpAny_bind (wpAny_isInstance hT sub_set_self ?_)
  simp only [Bool.not_true,Bool.false_eq_true,if_false]
  refine wpAny_bind (wpAny_typeOf hT ?_)
  exact wpAny_pure h

theorem Jt7 {S:Addr} {ds:List Int} {Q:List Value → Shared → Prop} (hh:A.handled = none) (hS:SetT prog w s.heap S ds) (h64:ds.length < 64)
    (h:∀ h' d' tk vs ns,(∀ b o,s.heap.get? b = some o → h'.get? b = some o) → IntsAre vs ns → ns.Perm ds → Q vs { s with heap := h',drawn := d',toks := tk }):wpAny (model prog w) A (collect (.ref S)) Q E s := by
  obtain ⟨o,ho,hex⟩:∃ o,s.heap.get? S = some o ∧ o.ExactSet := by
    obtain ⟨_,o,es,ep,t,ho,hex,_⟩ := hS
    exact ⟨o,ho,hex⟩
  have hlt := Heap.lt_size ho
  unfold collect
  refine wpAny_bind (wpAny_runValue (codeAny_builtin F.entry_proto_collect ?_))
  rw [Around.under_plainId F.plain_proto_collect _]
  show wpAny _ A.in1 (newList [] >>= fun l => again (.builtin "list.__iadd__" ⟨[l,.ref S],[]⟩)) _ _ s
  refine wpAny_bind (wpAny_newObj_type (wpAny_pure ⟨plainId_quiet F.plain_list_iadd _,codeAny_builtin F.entry_list_iadd ?_⟩))
  rw [Around.under_plainId F.plain_list_iadd _]
  generalize hL:s.heap.objs.size = L
  generalize hg:s.heap.push { cls := .type "list",dict := none,data := .seq ([]:List Value).toArray } = g
  have k1:∀ b o,s.heap.get? b = some o → g.get? b = some o := fun b o e => hg ▸ Heap.get?_push_of_some _ e
  have hLg:g.get? L = some { cls := .type "list",data := .seq ([]:List Value).toArray } := hg ▸ hL ▸ Heap.get?_push_size _ rfl
  have hsz:g.objs.size = L + 1 := by rw [← hg,Heap.size_push,hL]
  have hLS:L ≠ S := by rw [← hL]; exact Nat.ne_of_gt hlt
  have hT:Shared.TypeIs { s with heap := g } (.ref S) "set" := ⟨o,k1 _ _ ho,hex.1⟩
  show wpAny _ A.in1 (Builtin.List.listExtendWith (.ref L) (.ref S) (.ref L)) _ _ _
  unfold Builtin.List.listExtendWith
  refine wpAny_bind (wpAny_typeOf hT ?_)
  have h1:Builtin.List.listSameRef (.ref L) (.ref S) = false := by simp [Builtin.List.listSameRef,hLS]
  have h2:(Value.type "set" == Value.type "list") = false := by decide
  have h3:(Value.type "set" == Value.type "tuple") = false := by decide
  simp only [h1,h2,h3,Bool.or_false,Bool.false_eq_true,if_false]
  refine wpAny_bind (JB4 (s := { s with heap := g }) (hS.sameBut fun o e => k1 _ _ e) fun g2 d2 it T vs k2 hit hTT x ⟨ns,hi,hp⟩ => ?_)
  have hT2:Shared.TypeIs { s with heap := g2,drawn := d2 } (.ref S) "set" := ⟨o,k2 _ _ (k1 _ _ ho),hex.1⟩
  refine wpAny_bind (wpAny_holding (JB9 hT2 ?_))
  have hit':L < it := by
    have hit2:g.objs.size ≤ it := hit
    omega
  show wpAny _ A.in1 (rule "list.extend.makes-room" >>= fun _ => Builtin.List.listTouch (.ref L) >>= fun _ => again (.builtin "list.extend.loop" ⟨[.ref L,.ref it,.ref L],[]⟩)) _ _ _
  refine wpAny_bind (wpAny_rule (wpAny_bind ?_))
  have e1 := k2 _ _ hLg
  show wpAny _ A.in1 (updateSeq L (·.push .none) >>= fun _ => updateSeq L (·.pop)) _ _ _
  refine wpAny_bind (wpAny_updateSeq e1 rfl ?_)
  have e2 := Heap.get?_update_self (Obj.mapSeq (·.push Value.none)) e1 rfl
  refine wpAny_updateSeq e2 rfl ?_
  have e3 := Heap.get?_update_self (Obj.mapSeq (·.pop)) e2 rfl
  have oth:∀ b o,b ≠ L → g2.get? b = some o → ((g2.update L (Obj.mapSeq (·.push Value.none))).update L (Obj.mapSeq (·.pop))).get? b = some o := fun b o hb e => (Heap.get?_update_other _ _ (Ne.symm hb)).trans ((Heap.get?_update_other _ _ (Ne.symm hb)).trans e)
  have hvn:vs.length = ns.length := IntsAre.length hi
  have hv64:vs.length < 64 := by rw [hvn,hp.length_eq]; exact h64
  have hz:vs.length ≤ sizeLine := by rw [sizeLine_eq]; omega
  have nin:L ∉ [it,S,T] := fun z => by
    simp only [List.mem_cons,List.not_mem_nil,or_false] at z
    rcases z with z | z | z
    · omega
    · exact hLS z
    · rcases hTT with q | q
      · exact hLS (z.trans q)
      · have q':g.objs.size ≤ T := q
        omega
  have W := (Jxx (prog := prog) (w := w) (A := A.in1) (by simpa using hh) it S T vs).toS
  have x3:Jmy w ((g2.update L (Obj.mapSeq (·.push Value.none))).update L (Obj.mapSeq (·.pop))) it S T vs 0 := x.keep fun b hb o e => oth b o (fun z => nin (z ▸ hb)) e
  refine wpAny_pure ⟨plainId_quiet F.plain_extend_loop _,codeAny_extend_loopS W hz L nin _ vs.length 0 _ _ _ (by omega) (Nat.zero_le _) x3 e3 (ItemsOf.nil _) fun s' acc c hm hS' hacc => ?_⟩
  show wpAny _ A (load L >>= _) _ _ s'
  refine wpAny_bind (wpAny_load hS' ?_)
  have eacc:acc.toList = vs := by
    apply List.ext_getElem?
    intro j
    rw [Array.getElem?_toList]
    cases hj:acc[j]? with
    | some v => exact (hacc.2 j v hj).symm
    | none =>
      have:acc.size ≤ j := by simpa using hj
      rw [hacc.1] at this
      exact (List.getElem?_eq_none this).symm
  obtain ⟨h',g',d',tk,os'⟩ := s'
  have q1:g' = s.gens := hm.gens
  have q2:os' = s.os := hm.os
  subst q1 q2
  refine wpAny_pure ?_
  show Q acc.toList _
  rw [eacc]
  refine h h' d' tk vs ns (fun b o e => hm.heap b o ?_ (oth b o ?_ (k2 _ _ (k1 _ _ e)))) hi hp
  · have hb:b < L := by rw [← hL]; exact Heap.lt_size e
    intro z
    rcases List.mem_cons.mp z with z | z
    · exact absurd z (Nat.ne_of_lt hb)
    · exact absurd (List.mem_singleton.mp z) (Nat.ne_of_lt (Nat.lt_trans hb hit'))
  · exact Nat.ne_of_lt (by rw [← hL]; exact Heap.lt_size e)

theorem Jkd {h:Heap} {a:Addr} {vs:List Value} {n:Nat} {out:Array Value} (ho:h.get? a = some (seqObj "list" vs.toArray n)):∃ n',(sortedHeap h a vs out).get? a = some (seqObj "list" out n') := by
  unfold sortedHeap
  have q1 := get?_update_seq ho (fun _ => #[])
  exact ⟨_,get?_update_seq (Heap.get?_push_of_some _ (Heap.get?_push_of_some _ q1)) (fun _ => out)⟩
theorem Jjy {h:Heap} {a b:Addr} {vs:List Value} {out:Array Value} {o:Obj} (hb:b ≠ a) (ho:h.get? b = some o):(sortedHeap h a vs out).get? b = some o := by
  unfold sortedHeap
  rw [Heap.get?_update_other _ _ (Ne.symm hb)]
  exact Heap.get?_push_of_some _ (Heap.get?_push_of_some _ ((Heap.get?_update_other _ _ (Ne.symm hb)).trans ho))

theorem Juz {S:Addr} {ds:List Int} {Q:Value → Shared → Prop} (hh:A.handled = none) (hS:SetT prog w s.heap S ds) (h64:ds.length < 64)
    (h:∀ h' d' tk l vs ns n,(∀ b o,s.heap.get? b = some o → h'.get? b = some o) → (∀ b o,s.heap.get? b = some o → b < l) → h'.get? l = some { cls := .type "list",data := .seq vs n } → IntsAre vs.toList ns → ns.Perm ds → ns.Pairwise (· ≤ ·) → Q (.ref l) { s with heap := h',drawn := d',toks := tk }) :
    wpAny (model prog w) A (call (.builtin "sorted") [.ref S]) Q E s := by
  refine Calls.call_function_entry kind_sorted plain_sorted entry_sorted (args_sorted1 _) ?_
  unfold Builtin.«sorted»
  refine wpAny_bind (m := checkCount "sorted" 1 1 _) (wpAny_pure ?_)
  refine wpAny_bind (Jt7 (A := A.in1) (by simpa using hh) hS h64 fun h1 d1 t1 vs ns k1 hi hp => ?_)
  have hv64:vs.length < 64 := by rw [show vs.length = ns.length from IntsAre.length hi,hp.length_eq]; exact h64
  refine wpAny_bind (wpAny_newList ?_)
  have hoL:(h1.push (seqObj "list" vs.toArray 0)).get? h1.objs.size = some (seqObj "list" vs.toArray 0) := Heap.get?_push_size _ rfl
  show wpAny _ _ _ _ _ { s with heap := h1.push (seqObj "list" vs.toArray 0),drawn := d1,toks := t1 }
  refine wpAny_bind (wpAny_holding (wpAny_call_entry slot_list_sort ⟨_,hoL,rfl⟩ entry_list_sort (list_sort_tree hoL hi hv64 fun out ns' a1 a2 a3 => ⟨_,rfl,?_⟩) (args_list_sort _)))
  refine wpAny_pure ⟨_,rfl,?_⟩
  have old:∀ b o,s.heap.get? b = some o → b ≠ h1.objs.size := fun b o e => Nat.ne_of_lt (Heap.lt_size (k1 b o e))
  obtain ⟨n',e'⟩ := Jkd (out := out) hoL
  refine h _ d1 t1 h1.objs.size out ns' n' (fun b o e => Jjy (old b o e) (Heap.get?_push_of_some _ (k1 b o e))) (fun b o e => Heap.lt_size (k1 b o e)) e' a1 (a2.trans hp) a3
end
end SetP
end
section
set_option Elab.async false
set_option maxRecDepth 10000
set_option linter.all false
namespace L2
open PySem PySem.Spec PyProof.Rows

def PTs (X:Cx) (ifs:List Expr) (t:TT):Prop :=
  ∀ (pins:List (Addr × Obj)) (s:Shared) (σ:St) (H:Hp) (Q:Bool → Hp → Prop),Inv X pins σ H s → t σ H Q →
    wpAny (model X.prog X.w) X.A (forIn ifs true fun c r => if r = true then do let ok ← isTrue c X.env (eval c X.env); pure (ForInStep.yield ok) else pure (ForInStep.yield r)) (TP X pins σ Q) X.xe s
def tYes:TT := fun _ H Q => Q true H
theorem Jyi {X:Cx}:PTs X [] tYes := fun _ _ _ H _ I h => wpAny_pure ⟨H,I,h⟩
theorem Jyh {X:Cx} {c:Expr} {t:TT} (h:PT X c t):PTs X [c] t := by
  intro pins s σ H Q I hw
  rw [List.forIn_cons]
  simp only [if_true]
  refine wpAny_bind (wpAny_bind (thn (h pins s σ H Q I hw) fun b s1 hb => wpAny_pure ?_))
  show wpAny _ _ (pure b) _ _ _
  exact wpAny_pure hb

def Low (k:Nat) (g:TG):Prop := ∀ x σ H Q,g x σ H Q → g x σ H fun σ' H' => Q σ' H' ∧ σ'.length = σ.length ∧ ∀ j,k ≤ j → σ'[j]? = σ[j]?
def LowS (k:Nat) (g:TGs):Prop := ∀ x σ H Q,g x σ H Q → g x σ H fun σ' H' => Q σ' H' ∧ σ'.length = σ.length ∧ ∀ j,k ≤ j → σ'[j]? = σ[j]?
theorem Jvp {k i:Nat} (h:i < k):Low k (Jwl i) := fun x σ H Q q =>
  ⟨q,List.length_set ..,fun j hj => List.getElem?_set_ne (by omega)⟩
theorem Jzb {k:Nat}:LowS k gNil := fun _ _ _ _ ⟨e,q⟩ => ⟨e,q,rfl,fun _ _ => rfl⟩
theorem Jvq {k:Nat} {t:TG} {u:TGs} (ht:Low k t) (hu:LowS k u) (mono:∀ x σ H Q Q',(∀ σ' H',Q σ' H' → Q' σ' H') → t x σ H Q → t x σ H Q')
    (monoU:∀ x σ H Q Q',(∀ σ' H',Q σ' H' → Q' σ' H') → u x σ H Q → u x σ H Q'):LowS k (Jzv t u) := fun x σ H Q ⟨v,r,e,q⟩ => by
  refine ⟨v,r,e,mono v σ H _ _ (fun σ1 H1 z => ?_) (ht v σ H _ q)⟩
  obtain ⟨z1,z2,z3⟩ := z
  exact monoU r σ1 H1 _ _ (fun σ2 H2 y => ⟨y.1,y.2.1.trans z2,fun j hj => (y.2.2 j hj).trans (z3 j hj)⟩) (hu r σ1 H1 _ z1)
theorem Jza {K:PySem.W.Frag} {n k:Nat} {t:TGs} (h:LowS k t):Low k (gTup K n t) := fun x σ H Q ⟨a,xs,e,hs,hl,q⟩ => ⟨a,xs,e,hs,hl,h xs σ H Q q⟩
def compLook (sc:Scope) (N N2:List Str) (k:Nat) (caps:List Nat) (scope:Scope):Bool :=
  decide (scope.kind = .function) && scope.names.all (fun y => decide (y.2 ≠ .cell) || decide (scope.names.lookup y.1 = some .cell)) && scope.names.all (fun y => decide (y.2 ≠ .local) || decide (scope.names.lookup y.1 = some .local)) &&
  scope.names.all (fun y => decide (y.2 ≠ .free) || decide (sc.names.lookup y.1 = some .cell) || decide (sc.names.lookup y.1 = some .free)) && decide N2.Nodup && decide (N2.length = k + caps.length) &&
  (List.range caps.length).all fun j => match caps[j]?,N2[k + j]? with
    | some i,some y => decide (N[i]? = some y) && decide (scope.names.lookup y = some .free)
    | _,_ => false
structure Jcn (sc:Scope) (N N2:List Str) (k:Nat) (caps:List Nat) (scope:Scope):Prop where
  kind:scope.kind = .function
  one:∀ y ∈ scope.names,y.2 = .cell → scope.names.lookup y.1 = some .cell
  loc:∀ y ∈ scope.names,y.2 = .local → scope.names.lookup y.1 = some .local
  free:∀ y ∈ scope.names,y.2 = .free → sc.names.lookup y.1 = some .cell ∨ sc.names.lookup y.1 = some .free
  nd:N2.Nodup
  len:N2.length = k + caps.length
  cap:∀ j i,caps[j]? = some i → ∃ y,N2[k + j]? = some y ∧ N[i]? = some y ∧ scope.names.lookup y = some .free
theorem Jcn.of {sc:Scope} {N N2:List Str} {k:Nat} {caps:List Nat} {scope:Scope} (h:compLook sc N N2 k caps scope = true):Jcn sc N N2 k caps scope := by
  unfold compLook at h
  simp only [Bool.and_eq_true,List.all_eq_true,Bool.or_eq_true,decide_eq_true_eq] at h
  obtain ⟨⟨⟨⟨⟨⟨h1,h2⟩,h3⟩,h4⟩,h5⟩,h6⟩,h7⟩ := h
  refine ⟨h1,fun y hy e => ?_,fun y hy e => ?_,fun y hy e => ?_,h5,h6,fun j i e => ?_⟩
  · rcases h2 y hy with z | z
    · exact absurd e z
    · exact z
  · rcases h3 y hy with z | z
    · exact absurd e z
    · exact z
  · rcases h4 y hy with (z | z) | z
    · exact absurd e z
    · exact .inl z
    · exact .inr z
  · have hj:j ∈ List.range caps.length := List.mem_range.mpr (List.getElem?_eq_some_iff.mp e).1
    have q := h7 j hj
    rw [e] at q
    cases hy:N2[k + j]? with
    | none => rw [hy] at q; exact absurd q (by simp)
    | some y =>
      rw [hy] at q
      simp only [Bool.and_eq_true,decide_eq_true_eq] at q
      exact ⟨y,rfl,q.1,q.2⟩

theorem Jjr {env:Env}:∀ {names:List (Str × NameKind)} {x:Str},names.lookup x = some .free →
    (names.map fun (n,k) => if (k == NameKind.free && env.scope.kind == .function && env.kindOf n == some .cell) then (n,NameKind.cell) else (n,k)).lookup x = some .cell ∨
    (names.map fun (n,k) => if (k == NameKind.free && env.scope.kind == .function && env.kindOf n == some .cell) then (n,NameKind.cell) else (n,k)).lookup x = some .free
  | [],_,h => by simp at h
  | (n,k) :: r,x,h => by
    have ih := @Jjr env r x
    show List.lookup x ((if (k == NameKind.free && env.scope.kind == .function && env.kindOf n == some .cell) = true then (n,NameKind.cell) else (n,k)) :: _) = _ ∨ List.lookup x ((if (k == NameKind.free && env.scope.kind == .function && env.kindOf n == some .cell) = true then (n,NameKind.cell) else (n,k)) :: _) = _
    cases hx:x == n with
    | true =>
      simp only [List.lookup_cons,hx] at h
      cases h
      by_cases hc:(NameKind.free == NameKind.free && env.scope.kind == .function && env.kindOf n == some .cell) = true
      · rw [if_pos hc]; left; simp only [List.lookup_cons,hx]
      · rw [if_neg hc]; right; simp only [List.lookup_cons,hx]
    | false =>
      simp only [List.lookup_cons,hx] at h
      by_cases hc:(k == NameKind.free && env.scope.kind == .function && env.kindOf n == some .cell) = true
      · rw [if_pos hc]; simp only [List.lookup_cons,hx]; exact ih h
      · rw [if_neg hc]; simp only [List.lookup_cons,hx]; exact ih h
theorem Jjs {env:Env}:∀ {names:List (Str × NameKind)} {x:Str},
    ((names.map fun (n,k) => if (k == NameKind.free && env.scope.kind == .function && env.kindOf n == some .cell) then (n,NameKind.cell) else (n,k)).lookup x = some .cell ∨
     (names.map fun (n,k) => if (k == NameKind.free && env.scope.kind == .function && env.kindOf n == some .cell) then (n,NameKind.cell) else (n,k)).lookup x = some .free) → names.lookup x = some .free ∨ names.lookup x = some .cell
  | [],_,h => by simp at h
  | (n,k) :: r,x,h => by
    have ih := @Jjs env r x
    cases hx:x == n with
    | true =>
      simp only [List.lookup_cons,hx]
      by_cases hf:k = .free
      · rw [hf]; exact .inl rfl
      · have hkf:(k == NameKind.free) = false := by
          cases k <;> first | rfl | exact absurd rfl hf
        simp only [List.map_cons,hkf,Bool.false_and,Bool.false_eq_true,if_false,List.lookup_cons,hx] at h
        rcases h with z | z
        · exact .inr z
        · exact absurd (Option.some.inj z) hf
    | false =>
      simp only [List.lookup_cons,hx]
      refine ih ?_
      have h':List.lookup x ((if (k == NameKind.free && env.scope.kind == .function && env.kindOf n == some .cell) = true then (n,NameKind.cell) else (n,k)) :: List.map _ r) = some .cell ∨ List.lookup x ((if (k == NameKind.free && env.scope.kind == .function && env.kindOf n == some .cell) = true then (n,NameKind.cell) else (n,k)) :: List.map _ r) = some .free := h
      by_cases hcc:(k == NameKind.free && env.scope.kind == .function && env.kindOf n == some .cell) = true
      · rw [if_pos hcc] at h'; simp only [List.lookup_cons,hx] at h'; exact h'
      · rw [if_neg hcc] at h'; simp only [List.lookup_cons,hx] at h'; exact h'

theorem Jej:∀ (names:List (Str × NameKind)) (n:Nat) (acc:List (Str × Addr)),cellsFrom n names acc = cellsFrom n names [] ++ acc
  | [],_,_ => rfl
  | (x,k) :: r,n,acc => by
    unfold cellsFrom
    split
    · rw [Jej r (n + 1) ((x,n) :: acc),Jej r (n + 1) [(x,n)],List.append_assoc]; rfl
    · exact Jej r n acc
theorem Jgt:∀ (names:List (Str × NameKind)) (n:Nat) {x:Str} {c:Addr},(x,c) ∈ cellsFrom n names [] → (x,NameKind.cell) ∈ names
  | [],_,_,_,h => by simp [cellsFrom] at h
  | (y,k) :: r,n,x,c,h => by
    unfold cellsFrom at h
    split at h
    · rename_i hk
      rw [Jej] at h
      rcases List.mem_append.mp h with z | z
      · exact List.mem_cons_of_mem _ (Jgt r (n + 1) z)
      · have z':(x,c) = (y,n) := by simpa using z
        have hk':k = .cell := by simpa using hk
        cases z'
        rw [hk']; exact List.mem_cons_self
    · exact List.mem_cons_of_mem _ (Jgt r n h)
theorem Jrr {cs ds:List (Str × Addr)} {x:Str} {c:Addr} (h:(cs ++ ds).lookup x = some c):cs.lookup x = some c ∨ (cs.lookup x = none ∧ ds.lookup x = some c) := by
  rw [List.lookup_append] at h
  cases e:cs.lookup x with
  | none => rw [e] at h; exact .inr ⟨rfl,h⟩
  | some d => rw [e] at h; exact .inl h
theorem Jpc {M:Model} {A:Around} {E:Value → Shared → Prop} {s:Shared} {scope:Scope} {globals:Addr} {cl:List (Str × Addr)} {qual:Str} {env:Env} {Q:Env → Shared → Prop}
    (hQ:∀ h':Heap,h'.Ns s.heap.objs.size (fun _ => none) → (∀ b o,s.heap.get? b = some o → h'.get? b = some o) → CellsOk h' (s.heap.objs.size + 1) (cellsFrom (s.heap.objs.size + 1) scope.names []) →
      Q { scope,locals := s.heap.objs.size,globals,cells := cellsFrom (s.heap.objs.size + 1) scope.names [] ++ cl,qual,func := none,code := env.code,frame := env.frame,builtins := env.builtins } { s with heap := h' }) :
    wpAny M A (newFunctionEnv scope globals cl [] qual none .none (some env)) Q E s := by
  simp only [newFunctionEnv,Option.isSome_some,if_true]
  refine wpAny_bind (wpAny_alloc ?_)
  refine wpAny_bind (wpAny_layCells _ (fun name kind cells => by cases hkc:kind == NameKind.cell <;> simp [hkc]) _ _ _ _ ?_)
  rw [show ({ s with heap := s.heap.push { cls := .type "dict",data := .dict #[] } }:Shared).heap.objs.size = s.heap.objs.size + 1 from Heap.size_push ..]
  have ok := cellsFrom_ok scope.names (s.heap.push { cls := .type "dict",data := .dict #[] }) (s.heap.objs.size + 1) [] ⟨fun _ _ hm => (nomatch hm),List.Pairwise.nil⟩ (by rw [Heap.size_push]; exact Nat.le_refl _)
  rw [Heap.size_push] at ok
  rw [Jej]
  refine wpAny_bind ?_
  rw [List.forIn_nil]
  refine wpAny_pure (wpAny_pure (hQ _ ?_ ?_ ok))
  · exact (Heap.Ns.new s.heap (.type "dict")).keeps (pushCells_keeps _ _)
  · exact fun b o e => pushCells_keeps _ _ b o (Heap.get?_push_of_some _ e)

theorem Jlt {scope:Scope} {env:Env} (h:∀ y ∈ scope.names,y.2 = .free → ∃ c,env.cells.lookup y.1 = some c) :
    ∃ cl,closureFor scope env = pure cl ∧ (∀ x c,cl.lookup x = some c → env.cells.lookup x = some c) ∧ ∀ x,scope.names.lookup x = some .free → ∃ c,cl.lookup x = some c := by
  have all:∀ (names:List (Str × NameKind)) (cs:List (Str × Addr)),(∀ y ∈ names,y.2 = .free → ∃ c,env.cells.lookup y.1 = some c) → (∀ x c,cs.lookup x = some c → env.cells.lookup x = some c) →
      ∃ cl,(forIn names cs (fun (x:Str × NameKind) (cs:List (Str × Addr)) => (match x with
          | (name,kind) => if (kind == NameKind.free) = true then (cellOf env name >>= fun a => pure (ForInStep.yield ((name,a) :: cs))) else pure (ForInStep.yield cs):Sem (ForInStep (List (Str × Addr)))) ):Sem (List (Str × Addr))) = pure cl ∧
        (∀ x c,cl.lookup x = some c → env.cells.lookup x = some c) ∧ (∀ x c,cs.lookup x = some c → ∃ c',cl.lookup x = some c') ∧ ∀ x,names.lookup x = some .free → ∃ c,cl.lookup x = some c := by
    intro names
    induction names with
    | nil => intro cs _ hc; exact ⟨cs,rfl,hc,fun x c e => ⟨c,e⟩,fun x e => by simp at e⟩
    | cons y r ih =>
      intro cs hy hc
      obtain ⟨n,kd⟩ := y
      by_cases hk:kd = .free
      · subst hk
        obtain ⟨c,hcn⟩ := hy (n,.free) List.mem_cons_self rfl
        have hc':∀ x c',((n,c) :: cs).lookup x = some c' → env.cells.lookup x = some c' := fun x c' e => by
          rw [List.lookup_cons] at e
          cases hx:x == n with
          | true =>
            rw [hx] at e
            have hxn:x = n := by simpa using hx
            rw [hxn,hcn]; exact e
          | false => rw [hx] at e; exact hc x c' e
        obtain ⟨cl,e1,e2,e3,e4⟩ := ih ((n,c) :: cs) (fun z hz => hy z (List.mem_cons_of_mem _ hz)) hc'
        refine ⟨cl,?_,e2,fun x c' e => ?_,fun x e => ?_⟩
        · rw [List.forIn_cons]
          have hb:(NameKind.free == NameKind.free) = true := rfl
          simp only [hb,if_true,cellOf,hcn,pure_bind]
          exact e1
        · by_cases hx:(x == n) = true
          · exact e3 x c (by rw [List.lookup_cons,hx])
          · have hx':(x == n) = false := by simpa using hx
            exact e3 x c' (by rw [List.lookup_cons,hx']; exact e)
        · rw [List.lookup_cons] at e
          cases hx:x == n with
          | true => exact e3 x c (by rw [List.lookup_cons,hx])
          | false => rw [hx] at e; exact e4 x e
      · have hb:(kd == NameKind.free) = false := by
          cases kd <;> first | rfl | exact absurd rfl hk
        obtain ⟨cl,e1,e2,e3,e4⟩ := ih cs (fun z hz => hy z (List.mem_cons_of_mem _ hz)) hc
        refine ⟨cl,?_,e2,e3,fun x e => ?_⟩
        · rw [List.forIn_cons]
          simp only [hb,Bool.false_eq_true,if_false,pure_bind]
          exact e1
        · rw [List.lookup_cons] at e
          cases hx:x == n with
          | true => rw [hx] at e; exact absurd (Option.some.inj e) hk
          | false => rw [hx] at e; exact e4 x e
  obtain ⟨cl,e1,e2,_,e4⟩ := all scope.names [] h (fun x c e => by simp at e)
  refine ⟨cl,?_,e2,e4⟩
  unfold closureFor
  rw [← bind_pure (pure cl:Sem _),← e1]

abbrev Jda (X:Cx) (N2:List Str) (scope:Scope) (cl:List (Str × Addr)) (C:Addr) (s:Shared) (H:Hp) (ex:List Addr):Cx :=
  { X with N := N2,s₀ := s,H₀ := H,env := compEnvC scope cl C X.env,outer := X.stack,ex := ex,fn := fun x => decide (scope.names.lookup x = some .cell),pn := [],xe := fun _ _ => False }
def capS (k:Nat) (caps:List Nat) (σ:St):St := List.replicate k none ++ caps.map fun j => (σ[j]?).join

def JD7 (J:It) (k:Nat) (caps:List Nat) (σ:St) (g:TG) (tt:TT) (te:TE) (Q:VK) (H1:Hp):Prop := ∃ W:Nat → Nat → List V → Hp → Prop,(∃ m,W 0 m [] H1) ∧ ∀ i m ys H,W i m ys H →
  (J.stop i H ∧ ∀ p,H p = none → Q (.ref p) (upd H p (.lst ys))) ∨
  (J.go i H ∧ ys.length < sizeLine ∧ ∀ x H',J.yld i H x H' → g x (capS k caps σ) H' fun σ2 H2 => tt σ2 H2 fun b H3 =>
    if b = true then te σ2 H3 fun v H4 => ∃ m',m' < m ∧ W (i + 1) m' (ys ++ [v]) H4 else ∃ m',m' < m ∧ W (i + 1) m' ys H3)
def Jx3 (k:Nat) (caps:List Nat) (wi:TI) (g:TG) (tt:TT) (te:TE):TE := fun σ H Q => wi σ H fun J H1 => JD7 J k caps σ g tt te Q H1

theorem Jt9 {k:Nat} {caps:List Nat} {σ:St} {i:Nat} {v:V} (h:(capS k caps σ)[i]? = some (some v)):∃ j a,i = k + j ∧ caps[j]? = some a ∧ σ[a]? = some (some v) := by
  unfold capS at h
  by_cases hi:i < k
  · rw [List.getElem?_append_left (by simpa using hi),List.getElem?_replicate,if_pos hi] at h
    cases h
  · rw [List.getElem?_append_right (by simpa using hi),List.length_replicate,List.getElem?_map] at h
    cases e:caps[i - k]? with
    | none => rw [e] at h; cases h
    | some a =>
      rw [e] at h
      have h':(σ[a]?).join = some v := Option.some.inj h
      refine ⟨i - k,a,by omega,e,?_⟩
      cases e2:σ[a]? with
      | none => rw [e2] at h'; cases h'
      | some o =>
        rw [e2] at h'
        cases o with
        | none => cases h'
        | some v' =>
          have h'':some v' = some v := h'
          rw [h'']

theorem Jlb {a b n:Nat} (h1:a < n) (h2:n ≤ b):a ≠ b := by omega
section
variable {X:Cx} {pins:List (Addr × Obj)} {σ:St}

theorem Inv.but {H:Hp} {s:Shared} {C:Addr} {h':Heap} (I:Inv X pins σ H s) (hb:Heap.SameBut C s.heap h') (hn:H C = none) (hL:C ≠ X.env.locals) (h1:X.s₀.heap.objs.size ≤ C) (h2:∀ x c,X.env.cells.lookup x = some c → c ≠ C) (h3:∀ p ∈ X.pn ++ pins,p.1 ≠ C) :
    Inv X pins σ H { s with heap := h' } := I.turned (t' := s.toks) (fun b o hne e => (hb.2 b hne).trans e) hn hL (.inr h1) h2 h3

theorem Jls {s2:Shared} {H2:Hp} {elt tg iter:Expr} {ifs:List Expr} {scope:Scope} {pos:Pos} {N2:List Str} {k:Nat} {caps:List Nat} {cl:List (Str × Addr)} {g:TG} {tt:TT} {te:TE} {E:Value → Shared → Prop}
    {it:Addr} {fp:List Addr} {tn:Nat → Heap → Prop} {J:It} {RR:Value → Addr → Result → Shared → Prop} {Qe:List V → Hp → Prop} {W:Nat → Nat → List V → Hp → Prop} {m0:Nat}
    (hc:X.calm = true) (hS:Jcn X.env.scope X.N N2 k caps scope) (hlow:Low k g)
    (hcl:∀ x c,cl.lookup x = some c → X.env.cells.lookup x = some c) (hcf:∀ x,scope.names.lookup x = some .free → ∃ c,cl.lookup x = some c)
    (hb:∀ (cl:List (Str × Addr)) (C:Addr) (s:Shared) (H:Hp) (ex:List Addr),PG (Jda X N2 scope cl C s H ex) tg g ∧ PTs (Jda X N2 scope cl C s H ex) ifs tt ∧ PE (Jda X N2 scope cl C s H ex) elt te)
    (I2:Inv X pins σ H2 s2) (T:Turn X.prog X.w X.K tg J fp it tn) (st2:tn 0 s2.heap) (f2:∀ b ∈ fp,FpOk X pins H2 b) (w0:W 0 m0 [] H2)
    (turn:∀ i m ys H,W i m ys H → (J.stop i H ∧ Qe ys H) ∨
      (J.go i H ∧ ys.length < sizeLine ∧ ∀ x H',J.yld i H x H' → g x (capS k caps σ) H' fun σ2 H2 => tt σ2 H2 fun b H3 =>
        if b = true then te σ2 H3 fun v H4 => ∃ m',m' < m ∧ W (i + 1) m' (ys ++ [v]) H4 else ∃ m',m' < m ∧ W (i + 1) m' ys H3))
    (hRR:∀ D C s' H' ys,s2.heap.objs.size ≤ D → s2.heap.objs.size ≤ C → C ≠ D → H' D = none → H' C = none → Inv X pins σ (upd H' D (.lst ys)) s' → (∃ m,s'.heap.Ns C m) → Qe ys H' → RR (.ref D) C (.ok .next) s') :
    wpAny (model X.prog X.w) X.A (newList []) (fun acc s₃ => wpAny (model X.prog X.w) X.A (newFunctionEnv scope X.env.globals cl [] X.env.qual none .none (some X.env)) (fun cenv s₄ =>
      codeAny (model X.prog X.w) X.A (.compStart (.ListComp elt [⟨tg,iter,ifs,0⟩] scope pos) 0 (.ref it) acc { cenv with scope := relabel scope X.env }) (RR acc cenv.locals) s₄) E s₃) E s2 := by
  refine wpAny_newObj_type (Jpc fun h₁ hns₁ kp cok => ?_)
  dsimp only at hns₁ kp cok ⊢
  generalize hH3:s2.heap.push { cls := .type "list",dict := none,data := .seq ([]:List Value).toArray } = H3 at hns₁ kp cok ⊢
  have hC:H3.objs.size = s2.heap.objs.size + 1 := by rw [← hH3,Heap.size_push]
  generalize hDD:s2.heap.objs.size = D at hC
  generalize hCC:H3.objs.size = C at hns₁ cok hC ⊢
  have hDC:D ≠ C := by omega
  have szD:s2.heap.objs.size ≤ D := Nat.le_of_eq hDD
  have szC:s2.heap.objs.size ≤ C := by rw [hDD,hC]; exact Nat.le_succ _
  have below:∀ b o,s2.heap.get? b = some o → b ≠ C ∧ b ≠ D := fun b o e => ⟨Jlb (Heap.lt_size e) szC,Jlb (Heap.lt_size e) szD⟩
  have old:∀ b o,s2.heap.get? b = some o → h₁.get? b = some o := fun b o e => kp b o (hH3 ▸ Heap.get?_push_of_some _ e)
  have hacc:h₁.get? D = some { cls := .type "list",data := .seq ([]:List Value).toArray 0 } := kp _ _ (hH3 ▸ hDD ▸ Heap.get?_push_size _ rfl)
  have f2h:∀ b ∈ fp,∃ o,s2.heap.get? b = some o := fun b hbf => let ⟨o,e,_⟩ := T.obj 0 _ st2 b hbf; ⟨o,e⟩
  -- the block's context
  have okc:∀ x c,X.env.cells.lookup x = some c → ∃ o,s2.heap.get? c = some o := fun x c e => let ⟨_,o,ho,_⟩ := I2.cell x c e; ⟨o,ho⟩
  have oMem:∀ x c,(cellsFrom (C + 1) scope.names []).lookup x = some c → C + 1 ≤ c ∧ h₁.IsCell c none ∧ scope.names.lookup x = some .cell := fun x c e => by
    have m := PySem.mem_of_lookup e
    exact ⟨(cok.empty x c m).2,(cok.empty x c m).1,hS.one _ (Jgt _ _ m) rfl⟩
  have oHas:∀ x,scope.names.lookup x = some .cell → ∃ c,(cellsFrom (C + 1) scope.names []).lookup x = some c := fun x e => Option.isSome_iff_exists.mp (PySem.W.cellsFrom_some scope.names (C + 1) [] (.inl e))
  have oApart := cok.apart
  generalize cellsFrom (C + 1) scope.names [] = own at oMem oHas oApart ⊢
  have hcs:∀ x c,(own ++ cl).lookup x = some c → (C + 1 ≤ c ∧ h₁.IsCell c none ∧ own.lookup x = some c) ∨ X.env.cells.lookup x = some c := fun x c e => by
    rcases Jrr e with z | z
    · exact .inl ⟨(oMem x c z).1,(oMem x c z).2.1,z⟩
    · exact .inr (hcl x c z.2)
  have hlt:∀ x c,X.env.cells.lookup x = some c → c < s2.heap.objs.size := fun x c e => let ⟨o,ho⟩ := okc x c e; Heap.lt_size ho
  have OK:(Jda X N2 scope (own ++ cl) C s2 H2 fp).Ok := by
    refine ⟨I2.ok.mod,hS.kind,I2.ok.glob,I2.ok.blt,?_,fun x y c h1 h2 => ?_,fun x hx => ?_,fun x c hf h1 => ?_,I2.ok.hd,I2.ok.frames,.inl rfl,fun b hbf => ?_,I2.bs,
      Nat.le_trans I2.ok.bsz I2.sz,fun b o e hbf => ?_,fun b hbf hb' => ?_,I2.stack,I2.Jr8,I2.sysN⟩
    · exact szC
    · rcases hcs x c h1 with z | z
      · rcases hcs y c h2 with z' | z'
        · exact name_of_addr oApart (PySem.mem_of_lookup z.2.2) (PySem.mem_of_lookup z'.2.2)
        · exact absurd (hlt y c z') (Nat.not_lt.mpr (Nat.le_trans szC (Nat.le_trans (Nat.le_succ _) z.1)))
      · rcases hcs y c h2 with z' | z'
        · exact absurd (hlt x c z) (Nat.not_lt.mpr (Nat.le_trans szC (Nat.le_trans (Nat.le_succ _) z'.1)))
        · exact I2.ok.inj x y c z z'
    · rcases Jjs (env := X.env) hx with z | z
      · obtain ⟨c,e⟩ := hcf x z
        show ∃ c,(own ++ cl).lookup x = some c
        rw [List.lookup_append]
        cases q:own.lookup x with
        | none => exact ⟨c,e⟩
        | some d => exact ⟨d,rfl⟩
      · obtain ⟨c,e⟩ := oHas x z
        exact ⟨c,by show (own ++ cl).lookup x = some c; rw [List.lookup_append,e]; rfl⟩
    · obtain ⟨d,e⟩ := oHas x (of_decide_eq_true hf)
      have h1':(own ++ cl).lookup x = some c := h1
      rw [List.lookup_append,e] at h1'
      have e2:d = c := Option.some.inj h1'
      rw [← e2]
      exact Nat.le_trans szC (Nat.le_trans (Nat.le_succ _) (oMem x d e).1)
    · obtain ⟨o,e⟩ := f2h b hbf
      refine ⟨(below b o e).1,fun x c h1 => ?_⟩
      rcases hcs x c h1 with z | z
      · exact fun w => absurd (Heap.lt_size e) (by rw [← w]; exact Nat.not_lt.mpr (Nat.le_trans szC (Nat.le_trans (Nat.le_succ _) z.1)))
      · exact (f2 b hbf).2.2.2.2.1 x c z
    · rcases (f2 b hbf).2.2.2.1 with z | z
      · exact I2.ok.noex b o e z
      · exact absurd (Nat.lt_of_lt_of_le (Heap.lt_size (I2.ok.bs b o e).1) z) (Nat.lt_irrefl _)
    · rcases List.mem_cons.mp (I2.Jm2 b hb') with z | z
      · exact (f2 b hbf).2.1 z
      · exact (f2 b hbf).2.2.1 z
  have fresh:∀ a,s2.heap.objs.size ≤ a → H2 a = none := fun a ha => I2.hok.fresh ha
  have I4:∀ tk,Inv (Jda X N2 scope (own ++ cl) C s2 H2 fp) [(D,{ cls := .type "list",data := .seq ([]:List Value).toArray 0 })] (capS k caps σ) H2 { s2 with heap := h₁,toks := tk } := fun tk => by
    refine ⟨OK,rfl,I2.bare,Un.kept old,⟨_,hns₁,fun i x v e1 e2 e3 => ?_⟩,fun x c e => ?_,fresh C szC,fun x c e => ?_,fun p hp => ?_,I2.hok.kept old,?_⟩
    · obtain ⟨j,a,rfl,ha,hv⟩ := Jt9 e2
      obtain ⟨y,y1,y2,y3⟩ := hS.cap j a ha
      have e1':N2[k + j]? = some x := e1
      rw [y1] at e1'; cases e1'
      have hk:X.env.scope.names.lookup x = some .cell ∨ X.env.scope.names.lookup x = some .free := hS.free (x,.free) (PySem.mem_of_lookup y3) rfl
      obtain ⟨m',_,hl⟩ := id I2.loc
      obtain ⟨u,ru,lk⟩ := hl a x v y2 hv (hk.elim (fun z => .inr (.inl z)) fun z => .inr (.inr z))
      refine ⟨u,ru,.inr ⟨Jjr y3,?_⟩⟩
      rcases lk with ⟨kk,_⟩ | ⟨_,c,e,z⟩
      · have kk':X.env.scope.names.lookup x = some .local := kk
        rw [kk'] at hk
        rcases hk with z | z <;> cases z
      · obtain ⟨c',e'⟩ := hcf x y3
        have e'' := hcl x c' e'
        rw [e] at e''; cases e''
        obtain ⟨o,ho,hd⟩ := z
        refine ⟨c,?_,o,old c o ho,hd⟩
        show (own ++ cl).lookup x = some c
        rw [List.lookup_append]
        cases q:own.lookup x with
        | none => exact e'
        | some d => have := (oMem x d q).2.2; rw [y3] at this; cases this
    · rcases hcs x c e with z | z
      · exact ⟨none,z.2.1⟩
      · obtain ⟨v,o,ho,hd⟩ := I2.cell x c z
        exact ⟨v,o,old c o ho,hd⟩
    · rcases hcs x c e with z | z
      · exact fresh c (Nat.le_trans szC (Nat.le_trans (Nat.le_succ _) z.1))
      · exact I2.freeC x c z
    · have hp':p ∈ [(D,({ cls := .type "list",data := .seq ([]:List Value).toArray 0 }:Obj))] := hp
      have e:p = (D,({ cls := .type "list",data := .seq ([]:List Value).toArray 0 }:Obj)) := by simpa using hp'
      subst e
      exact ⟨hacc,fresh D szD,hDC,fun z => by
        rcases List.mem_cons.mp (I2.Jm2 D z) with z | z
        · exact Jlb I2.lt szD z.symm
        · exact I2.nofs szD z,fun v z => by cases z⟩
    · show (capS k caps σ).length = N2.length
      unfold capS
      rw [List.length_append,List.length_replicate,List.length_map,hS.len]
  -- the loop
  obtain ⟨hg,ht,he⟩ := hb (own ++ cl) C s2 H2 fp
  have loop:∀ s₃:Shared,Inv (Jda X N2 scope (own ++ cl) C s2 H2 fp) [(D,{ cls := .type "list",data := .seq ([]:List Value).toArray 0 })] (capS k caps σ) H2 s₃ → tn 0 s₃.heap →
      codeAny (model X.prog X.w) X.A (.compLoop (.ListComp elt [⟨tg,iter,ifs,0⟩] scope pos) 0 (.ref it) (.ref D) (compEnvC scope (own ++ cl) C X.env)) (RR (.ref D) C) s₃ := by
    intro s₃ I₃ st₃
    refine codeAny_loop rfl (fun n s' => ∃ i ys its nn H',Inv (Jda X N2 scope (own ++ cl) C s2 H2 fp) [(D,{ cls := .type "list",data := .seq (its:List Value).toArray nn })] (capS k caps σ) H' s' ∧ Vals ys its ∧ tn i s'.heap ∧ (∀ b ∈ fp,H' b = none) ∧ ys.length ≤ sizeLine ∧ W i n ys H') ?_ m0
      ⟨0,[],[],0,H2,I₃,.nil,st₃,fun b hbf => (f2 b hbf).1,Nat.zero_le _,w0⟩
    rintro n s5 ⟨i,ys,its,nn,H5,I5,rv,st5,fr5,hz,w5⟩
    show wpAny _ X.A ((compTurn (.ListComp elt [⟨tg,iter,ifs,0⟩] scope pos) 0 (.ref it) (.ref D) (compEnvC scope (own ++ cl) C X.env)).onRaise (fun x => do noteFrame x (compEnvC scope (own ++ cl) C X.env); theTreesLotGoes x)) _ _ s5
    refine wpAny_noted ?_
    rw [compTurn_list]
    refine wpAny_bind (wpAny_standAt (wpAny_bind ?_))
    have fpok:∀ {H':Hp} {o:Obj},(∀ b ∈ fp,H' b = none) → ∀ b ∈ fp,FpOk (Jda X N2 scope (own ++ cl) C s2 H2 fp) [(D,o)] H' b := fun {H' o} hn b hbf => by
      obtain ⟨ob,e⟩ := f2h b hbf
      refine ⟨hn b hbf,(below b ob e).1,OK.exfs b hbf,.inl hbf,(OK.exf b hbf).2,fun p hp z => ?_⟩
      have hp':p ∈ [(D,o)] := hp
      have e':p = (D,o) := by simpa using hp'
      subst e'
      exact (below b ob e).2 z.symm
    rcases turn i n ys H5 w5 with ⟨stop,qn⟩ | ⟨go,hz2,step⟩
    · refine thn (T.done (Jda X N2 scope (own ++ cl) C s2 H2 fp) rfl rfl rfl hc i _ s5 _ H5 _ I5 (fpok fr5) st5 stop) fun r s6 ⟨hr,I6⟩ => ?_
      subst hr
      refine wpAny_pure ?_
      obtain ⟨pe,pn,pne,pnf,_⟩ := I6.pin (D,{ cls := .type "list",data := .seq its.toArray nn }) (List.mem_append_right _ (List.mem_singleton.mpr rfl))
      have hD:H5 D = none := pn
      have hCn:H5 C = none := I6.free
      refine hRR D C s6 H5 ys szD szC (Ne.symm hDC) hD hCn ?_ ?_ qn
      · have un:Un (frs X.stack) fp H2 (upd H5 D (.lst ys)) s2.heap s6.heap := by
          have u := I6.base
          refine ⟨u.keep,u.slot,fun b o e n1 n2 => ?_,u.there,fun b xs e => ?_,fun b o u' e => ?_,fun b ps e => ?_,fun n => by rw [Jbg (Nat.ne_of_lt (Nat.lt_of_lt_of_le I2.bigS szD))]; exact u.sy n⟩
          · rw [Jbg (below b o e).2]; exact u.free b o e n1 n2
          · rw [Jbg (Jb6 (u.tups b xs e) hD)]; exact u.tups b xs e
          · rw [Jbg (Jb6 (u.frzs b o u' e) hD)]; exact u.frzs b o u' e
          · obtain ⟨more,q⟩ := u.tbls b ps e
            exact ⟨more,by rw [Jbg (Jb6 q hD)]; exact q⟩
        refine I2.call' I6.os un (fun b u e => ?_) I6.bare (fun b hbf => ⟨(f2 b hbf).2.2.2.1,(f2 b hbf).2.1,(f2 b hbf).2.2.2.2.1,(f2 b hbf).2.2.2.2.2⟩)
        by_cases hbd:b = D
        · subst hbd
          rw [Jbj] at e; cases e
          exact ⟨hz,its,nn,rv,pe⟩
        · rw [Jbg hbd] at e
          exact (I6.hok b u e).stay (fun _ _ _ q => q) (fun c q => by rw [Jbg (Jb6 q hD)]; exact q) fun c xs q => by rw [Jbg (Jb6 q hD)]; exact q
      · obtain ⟨m,hn,_⟩ := I6.loc
        exact ⟨m,hn⟩
    · refine thn (T.item (Jda X N2 scope (own ++ cl) C s2 H2 fp) rfl rfl rfl hc i _ s5 _ H5 _ I5 (fpok fr5) st5 go) fun r s6 ⟨u,hr,h6⟩ => ?_
      subst hr
      refine wpAny_bind (thn h6 fun _ s7 ⟨x,H7,I7,r7,y7,st7,fr7⟩ => ?_)
      have I7' := I7.pinned (fpok fr7) (T.obj _ _ st7)
      refine wpAny_bind (wpAny_mono (hg _ s7 _ H7 x u _ I7' r7 (hlow _ _ _ _ (step x H7 y7))) (fun _ s8 ⟨σ8,H8,I8,q8,ql,qk⟩ => ?_) fun _ _ z => z.elim)
      have wk:∀ {pl:List (Addr × Obj)} {H9:Hp} {s9:Shared},Inv (Jda X N2 scope (own ++ cl) C s2 H2 fp) pl σ8 H9 s9 → Inv (Jda X N2 scope (own ++ cl) C s2 H2 fp) pl (capS k caps σ) H9 s9 := fun {pl H9 s9} I9 =>
        I9.weak ql.symm fun i v e => by
          obtain ⟨j,a,rfl,_,_⟩ := Jt9 e
          rw [qk (k + j) (Nat.le_add_right _ _)]; exact e
      have pinD:∀ {pl:List (Addr × Obj)} {σ9:St} {H9:Hp} {s9:Shared},Inv (Jda X N2 scope (own ++ cl) C s2 H2 fp) (((D,({ cls := .type "list",data := .seq its.toArray nn }:Obj)) :: []) ++ pl) σ9 H9 s9 → s9.heap.get? D = some { cls := .type "list",data := .seq its.toArray nn } ∧ H9 D = none := fun {pl σ9 H9 s9} I9 => by
        obtain ⟨e1,e2,_⟩ := I9.pin (D,_) (List.mem_append_right _ (List.mem_append_left _ (List.mem_singleton.mpr rfl)))
        exact ⟨e1,e2⟩
      have stn:∀ {pl:List (Addr × Obj)} {σ9:St} {H9:Hp} {s9:Shared},Inv (Jda X N2 scope (own ++ cl) C s2 H2 fp) (pl ++ Jjt fp s7.heap) σ9 H9 s9 → tn (i + 1) s9.heap ∧ ∀ b ∈ fp,H9 b = none := fun {pl σ9 H9 s9} I9 => by
        refine ⟨T.keep _ _ _ st7 fun b hbf o e => (I9.pin (b,o) (List.mem_append_right _ (List.mem_append_right _ (Jhl hbf e)))).1,fun b hbf => ?_⟩
        obtain ⟨o,e,d⟩ := T.obj _ _ st7 b hbf
        exact (I9.pin (b,o) (List.mem_append_right _ (List.mem_append_right _ (Jhl hbf e)))).2.1
      refine wpAny_bind (wpAny_mono (ht _ s8 σ8 H8 _ I8 q8) (fun ok s9 ⟨H9,I9,q9⟩ => ?_) fun _ _ z => z.elim)
      cases ok with
      | false =>
        obtain ⟨m',hm,w9⟩ := (by simpa using q9:∃ m',m' < n ∧ W (i + 1) m' ys H9)
        refine wpAny_pure ⟨rfl,m',hm,i + 1,ys,its,nn,H9,wk I9.Jj5,rv,(stn I9).1,(stn I9).2,hz,w9⟩
      | true =>
        have q9':te σ8 H9 fun v H4 => ∃ m',m' < n ∧ W (i + 1) m' (ys ++ [v]) H4 := by simpa using q9
        refine wpAny_bind (wpAny_bind (wpAny_mono (he _ s9 σ8 H9 _ I9 q9') (fun y s10 ⟨v,H10,I10,r10,q10⟩ => wpAny_bind ?_) fun _ _ z => z.elim))
        obtain ⟨m',hm,w10⟩ := q10
        obtain ⟨eD,nD⟩ := pinD I10
        have hl := rv.length
        refine call_meets F.slot_list_append ⟨_,eD,rfl⟩ F.entry_list_append (F.args_list_append_2 _ _) (PySem.list_append D its.toArray nn y (by rw [List.size_toArray]; omega)) ⟨eD,?_⟩
        refine wpAny_pure (wpAny_pure ⟨rfl,m',hm,?_⟩)
        obtain ⟨n2,qD⟩:∃ n2,(s10.heap.update D (Obj.mapSeq fun z => z.push y)).get? D = some { cls := .type "list",data := .seq (its ++ [y]).toArray n2 } := by
          have q0 := PySem.IsL.update eD (fun z => z.push y)
          have hf:its.toArray.push y = (its ++ [y]).toArray := by simp
          rw [hf] at q0
          exact ⟨_,q0⟩
        have J0:Inv (Jda X N2 scope (own ++ cl) C s2 H2 fp) (Jjt fp s7.heap) (capS k caps σ) H10 s10 := wk (I10.Jl4 fun p hp => I10.pin p (List.mem_append_right _ (List.mem_append_right _ hp)))
        have J1:Inv (Jda X N2 scope (own ++ cl) C s2 H2 fp) (Jjt fp s7.heap) (capS k caps σ) H10 { s10 with heap := s10.heap.update D (Obj.mapSeq fun z => z.push y),toks := s10.toks } := by
          refine J0.turned (fun b o hne e => (Heap.get?_update_other s10.heap _ (Ne.symm hne)).trans e) nD hDC (.inr szD) (fun x c e z => ?_) fun p hp z => ?_
          · rcases hcs x c e with y | y
            · have := y.1
              rw [z] at this
              omega
            · obtain ⟨o,ho⟩ := okc x c y
              exact (below c o ho).2 z
          · have hp':p ∈ Jjt fp s7.heap := hp
            obtain ⟨ob,e⟩ := f2h p.1 (Jnm hp').1
            exact (below p.1 ob e).2 z
        have J2:Inv (Jda X N2 scope (own ++ cl) C s2 H2 fp) [(D,{ cls := .type "list",data := .seq (its ++ [y]).toArray n2 })] (capS k caps σ) H10 { s10 with heap := s10.heap.update D (Obj.mapSeq fun z => z.push y),toks := s10.toks } := by
          refine J1.Jl4 fun p hp => ?_
          have e:p = (D,{ cls := .type "list",data := .seq (its ++ [y]).toArray n2 }) := List.mem_singleton.mp hp
          subst e
          exact ⟨qD,nD,hDC,fun z => by
            rcases List.mem_cons.mp (I2.Jm2 D z) with z | z
            · exact Jlb I2.lt szD z.symm
            · exact I2.nofs szD z,fun v z => by cases z⟩
        refine ⟨i + 1,ys ++ [v],its ++ [y],_,H10,J2,rv.append (.cons r10 .nil),?_,(stn I10).2,?_,w10⟩
        · refine T.keep _ _ _ (stn I10).1 fun b hbf o e => ?_
          obtain ⟨ob,e'⟩ := f2h b hbf
          exact (Heap.get?_update_other s10.heap _ (Ne.symm (below b ob e').2)).trans e
        · rw [List.length_append,List.length_singleton]; omega
  have st1:tn 0 h₁ := T.keep _ _ _ st2 fun b hbf o e => old b o e
  exact codeAny_compStart_list (loop _ (I4 _) st1) (T.self X.A 0 _ _ _ st1 (loop _ (I4 _) st1))

theorem Jsz {elt tg iter:Expr} {ifs:List Expr} {scope:Scope} {pos:Pos} {N2:List Str} {k:Nat} {caps:List Nat} {wi:TI} {g:TG} {tt:TT} {te:TE}
    (hc:X.calm = true) (hS:Jcn X.env.scope X.N N2 k caps scope) (hlow:Low k g) (hi:PI X tg iter wi)
    (hb:∀ (cl:List (Str × Addr)) (C:Addr) (s:Shared) (H:Hp) (ex:List Addr),PG (Jda X N2 scope cl C s H ex) tg g ∧ PTs (Jda X N2 scope cl C s H ex) ifs tt ∧ PE (Jda X N2 scope cl C s H ex) elt te)
    (hs:∀ x,foldedSetIterable iter X.env x = pure x := by intro _; rfl):PE X (.ListComp elt [⟨tg,iter,ifs,0⟩] scope pos) (Jx3 k caps wi g tt te) := by
  intro pins s σ H Q I h
  rw [eval_ListComp]
  obtain ⟨cl,hcl0,hcl,hcf⟩ := Jlt (scope := scope) (env := X.env) fun y hy e => I.ok.has y.1 (hS.free y hy e)
  refine wpAny_comprehension_free (use := none) rfl hs hcl0 hS.kind hS.loc ?_
  refine thn (hi pins s σ H _ I h) fun v s1 h1 => thn h1 fun itv s2 h2 => ?_
  obtain ⟨it,fp,tn,J,H2,e,I2,T,st2,f2,W,⟨m0,w0⟩,turn⟩ := h2
  subst e
  refine Jls (RR := fun acc C => compPost (model X.prog X.w) X.A X.xe none (EP X pins σ Q) acc C) (Qe := fun ys H => ∀ p,H p = none → Q (.ref p) (upd H p (.lst ys))) hc hS hlow hcl hcf hb I2 T st2 f2 w0 turn ?_
  intro D C s' H' ys hD hC hDC nD nC I' hn q
  obtain ⟨m,hn⟩ := hn
  refine ⟨m,hn,fun h' hsb => ⟨.ref D,_,?_,rfl,q D nD⟩⟩
  refine I'.but hsb (by rw [Jbg hDC]; exact nC) (fun z => ?_) (Nat.le_trans I2.sz hC) (fun x c e z => ?_) fun p hp z => ?_
  · exact Jlb I2.lt hC z.symm
  · obtain ⟨v,o,ho,_⟩ := I2.cell x c e
    exact Jlb (Heap.lt_size ho) hC z
  · exact Jlb (Heap.lt_size (I2.pin p hp).1) hC z

def JDa (i:Nat) (t:TE):TS := fun D σ H => t σ H fun v H1 => D.nx (σ.set i (some v)) H1
theorem Jym {elt tg iter:Expr} {ifs:List Expr} {scope:Scope} {pos py spos:Pos} {N2:List Str} {k i:Nat} {y:Str} {caps:List Nat} {wi:TI} {g:TG} {tt:TT} {te:TE}
    (hc:X.calm = true) (hN:X.N.Nodup) (hi':X.N[i]? = some y) (hS:Jcn X.env.scope X.N N2 k caps scope) (hlow:Low k g) (hi:PI X tg iter wi)
    (hb:∀ (cl:List (Str × Addr)) (C:Addr) (s:Shared) (H:Hp) (ex:List Addr),PG (Jda X N2 scope cl C s H ex) tg g ∧ PTs (Jda X N2 scope cl C s H ex) ifs tt ∧ PE (Jda X N2 scope cl C s H ex) elt te)
    (hx:X.env.scope.names.lookup y = some .local := by rfl) (hsw:swapsWith (.ListComp elt [⟨tg,iter,ifs,0⟩] scope pos) (some (.Name y py)) spos.line X.env = pure true := by rfl)
    (hs:∀ x,foldedSetIterable iter X.env x = pure x := by intro _; rfl):PS X (.Assign [.Name y py] (.ListComp elt [⟨tg,iter,ifs,0⟩] scope pos) spos) (JDa i (Jx3 k caps wi g tt te)) := by
  intro pins s σ H D0 I h
  obtain ⟨cl,hcl0,hcl,hcf⟩ := Jlt (scope := scope) (env := X.env) fun y hy e => I.ok.has y.1 (hS.free y hy e)
  rw [exec_Assign_Name_used _ _ _ _ hsw]
  refine wpAny_bind (wpAny_standAt (wpAny_bind ?_))
  show wpAny _ X.A (do let _ ← comprehension (.ListComp elt [⟨tg,iter,ifs,0⟩] scope pos) scope X.env _ (newList []) false (eval iter X.env) (some (assign (.Name y py) X.env))) _ _ s
  refine wpAny_bind (wpAny_mono (wpAny_comprehension_free (use := some (assign (.Name y py) X.env)) (Q := fun _ s' => SP X pins D0 .next s') rfl hs hcl0 hS.kind hS.loc ?_) (fun _ s' hq => wpAny_pure (wpAny_pure hq)) fun _ _ e => e)
  refine thn (hi pins s σ H _ I h) fun v s1 h1 => thn h1 fun itv s2 h2 => ?_
  obtain ⟨it,fp,tn,J,H2,e,I2,T,st2,f2,W,⟨m0,w0⟩,turn⟩ := h2
  subst e
  refine Jls (RR := fun acc C => compPost (model X.prog X.w) X.A X.xe (some (assign (.Name y py) X.env)) (fun _ s' => SP X pins D0 .next s') acc C)
    (Qe := fun ys H => ∀ p,H p = none → D0.nx (σ.set i (some (.ref p))) (upd H p (.lst ys))) hc hS hlow hcl hcf hb I2 T st2 f2 w0 turn ?_
  intro D C s' H' ys hD hC hDC nD nC I' hn q
  obtain ⟨m,hn⟩ := hn
  show wpAny _ X.A (assign (.Name y py) X.env (.ref D)) _ _ _
  refine wpAny_assign_Name (Jm1 (v := .ref D) I' hN hi' (.inl hx) rfl (fun s'' I'' ⟨a,hsb,ha⟩ => ?_) (.inr hx))
  have hLC:C ≠ X.env.locals := fun z => Jlb I2.lt hC z.symm
  have hcC:∀ x c,X.env.cells.lookup x = some c → c ≠ C := fun x c e z => by
    obtain ⟨v,o,ho,_⟩ := I2.cell x c e
    exact Jlb (Heap.lt_size ho) hC z
  have haC:C ≠ a := by
    rcases ha with z | z
    · rw [z]; exact hLC
    · exact fun e => hcC y a z e.symm
  refine ⟨m,hn.sameBut hsb haC,fun h' hsb' => ?_⟩
  refine ⟨_,_,I''.but hsb' (by rw [Jbg hDC]; exact nC) hLC (Nat.le_trans I2.sz hC) hcC fun p hp z => ?_,q D nD⟩
  exact Jlb (Heap.lt_size (I2.pin p hp).1) hC z
end
end L2
end
section
set_option Elab.async false
set_option maxRecDepth 10000
set_option linter.all false
namespace L2
open PySem PySem.Spec PyProof.Rows

theorem Jek.obj {P:Program} {w:World} {H:Hp} {h:Heap} {a:Addr} {o:HO} (x:Jek P w H h a o):∃ ob,h.get? a = some ob := by
  cases o with
  | lst xs => obtain ⟨_,_,_,_,e⟩ := x; exact ⟨_,e⟩
  | tup xs => obtain ⟨_,_,_,ob,e,_⟩ := x; exact ⟨ob,e⟩
  | dK kvs => obtain ⟨_,_,_,_,o,_,_,e,_⟩ := x; exact ⟨o,e⟩
  | dT kvs => obtain ⟨_,_,_,_,o,_,_,e,_⟩ := x; exact ⟨o,e⟩
  | set S n => obtain ⟨o,_,_,_,e,_⟩ := x; exact ⟨o,e⟩
  | ins C dx fs => obtain ⟨_,_,_,e,_⟩ := x; exact ⟨_,e⟩
  | own y => exact x
  | xd fs => obtain ⟨_,⟨o,_,_,e,_⟩,_⟩ := x; exact ⟨o,e⟩
  | rng lo hi => obtain ⟨_,_,_,e⟩ := x; exact ⟨_,e⟩
  | frz ob u => obtain ⟨e,_⟩ := x; exact ⟨_,e⟩
  | tbl ps => exact ⟨_,x⟩
  | met f y => exact ⟨_,x⟩
  | ext φ => obtain ⟨_,e,_⟩ := x; exact e
section
variable {X:Cx} {pins:List (Addr × Obj)} {σ:St} {H:Hp} {s:Shared}
theorem Inv.Js5 (I:Inv X pins σ H s) {a:Addr} (h:s.heap.get? a = none):H a = none := by
  cases q:H a with
  | none => rfl
  | some o =>
    obtain ⟨ob,e⟩ := (I.hok a o q).obj
    rw [h] at e; cases e
theorem Inv.laidN {a:Addr} {o:HO} {h':Heap} {d':Drawn} {t':Nat} (I:Inv X pins σ H s) (k:∀ b u,s.heap.get? b = some u → h'.get? b = some u) (hn:s.heap.get? a = none) (hsy:sysModules ≠ a) (new:Jek X.prog X.w (upd H a o) h' a o) :
    Inv X pins σ (upd H a o) { s with heap := h',drawn := d',toks := t' } := by
  have hH := I.Js5 hn
  have ne:∀ b u,s.heap.get? b = some u → b ≠ a := fun b u e z => by rw [z,hn] at e; cases e
  refine I.step (g' := s.gens) (ch := []) (fun _ z => nomatch z) (fun b u _ _ _ e _ => k b u e) (fun b u _ _ _ e _ => ⟨u.slots,k b u e⟩) (fun b u _ e n => by rw [Jbg (ne b u e)]; exact n) (fun b u _ e => ⟨u,k b u e⟩)
    (fun b xs e => by rw [Jbg (Jb6 e hH)]; exact e) (fun b u xs e => by rw [Jbg (Jb6 e hH)]; exact e) (fun b ps e => ⟨#[],by rw [Jbg (Jb6 e hH),e]; simp⟩) (fun m hm => ?_) (fun b u e => ?_) I.bare (fun n => by rw [Jbg hsy]; exact n)
  · obtain ⟨ob,es,ep,e,r⟩ := hm
    exact ⟨ob,es,ep,k _ _ e,r⟩
  · by_cases hb:b = a
    · subst hb; rw [Jbj] at e; cases e; exact new
    · rw [Jbg hb] at e
      exact (I.hok b u e).stay (fun c v _ q => k c v q) (fun c q => by rw [Jbg (Jb6 q hH)]; exact q) fun c xs q => by rw [Jbg (Jb6 q hH)]; exact q
end

def setO (P:Program) (w:World) (a:Addr) (ds:List Int):HO := .ext fun h => SetP.SetT P w h a ds
theorem Jya {P:Program} {w:World} {H:Hp} {h:Heap} {a:Addr} {ds:List Int} (x:SetP.SetT P w h a ds):Jek P w H h a (setO P w a ds) :=
  ⟨x,(by obtain ⟨_,o,_,_,_,e,_⟩ := x; exact ⟨o,e⟩),fun h1 h2 y k => y.sameBut k⟩
section
variable {X:Cx}
theorem Jwq (hc:X.calm = true):Jd1 X (.type "set") (fun xs H Q => ∃ p ns,xs = [.ref p] ∧ SqL X.K H p (ns.map V.int) ∧ ns.length < 1000 ∧ ∀ a,H a = none → Q (.ref a) (upd H a (setO X.prog X.w a (SetP.once ns)))) := by
  intro pins s σ H xs us Q I r h
  obtain ⟨p,ns,rfl,hq,hl,q⟩ := h
  obtain ⟨u,rfl,rx⟩ := vals1 r
  cases rx
  obtain ⟨its,rv,pl,hz⟩ := I.list hq
  have hlen := rv.length
  rw [List.length_map] at hlen
  refine SetP.Jx9 (I.ok.hd hc) pl.isList (by simpa using intsAre_of rv) (by rw [List.size_toArray,← hlen]; unfold scanBound; omega) fun h' tk k T => ?_
  have hn:s.heap.get? s.heap.objs.size = none := Heap.get?_none_of_le (Nat.le_refl _)
  exact ⟨.ref s.heap.objs.size,_,I.laidN (d' := s.drawn) (t' := tk) k hn (Nat.ne_of_lt I.bigS) (Jya T),rfl,q _ (I.hok.fresh (Nat.le_refl _))⟩
theorem Jk9 (hc:X.calm = true):Jd1 X (.builtin "sorted") (fun xs H Q => ∃ (a:Addr) (ds:List Int),xs = [.ref a] ∧ H a = some (setO X.prog X.w a ds) ∧ ds.length < 64 ∧
    ∀ (l:Addr) (ns:List Int),H l = none → ns.Perm ds → ns.Pairwise (· ≤ ·) → Q (.ref l) (upd H l (.lst (ns.map V.int)))) := by
  intro pins s σ H xs us Q I r h
  obtain ⟨a,ds,rfl,hH,hl,q⟩ := h
  obtain ⟨u,rfl,rx⟩ := vals1 r
  cases rx
  obtain ⟨T,_,_⟩ := (show Jek X.prog X.w H s.heap a (setO X.prog X.w a ds) from I.hok a _ hH)
  refine SetP.Juz (I.ok.hd hc) T hl fun h' d' tk l vs ns n k hb e hi hp hs => ?_
  have hn:s.heap.get? l = none := by
    cases q:s.heap.get? l with
    | none => rfl
    | some o => exact absurd (hb l o q) (Nat.lt_irrefl _)
  have hsy:sysModules ≠ l := by
    obtain ⟨o,_,_,e,_⟩ := I.ok.mod.glob
    exact Nat.ne_of_lt (Nat.lt_trans (by decide:(1:Nat) < 3) (hb _ _ (I.bk _ _ e)))
  have hlen:ns.length < 64 := by rw [hp.length_eq]; exact hl
  refine ⟨.ref l,_,I.laidN (d' := d') (t' := tk) (o := .lst (ns.map V.int)) k hn hsy ⟨?_,vs.toList,n,Jkb hi,by simpa using e⟩,rfl,q l ns (I.Js5 hn) hp hs⟩
  rw [List.length_map]
  exact Nat.le_of_lt (Jm5 (by omega))

theorem Jor {prog:Program} {w:World} {A:Around} {bs:List Bool} {its:List Value} (r:Vals (bs.map V.bl) its):TruthOf prog w A (fun i v => its.toArray[i]? = some v) (fun i => bs.getD i false) := by
  intro i v s Q E hP h
  rw [List.getElem?_toArray] at hP
  have hlen := r.length
  rw [List.length_map] at hlen
  have hi:i < bs.length := by rw [hlen]; exact (List.getElem?_eq_some_iff.mp hP).1
  obtain ⟨u,e,ru⟩ := r.get (i := i) (x := .bl bs[i]) (by rw [List.getElem?_map,List.getElem?_eq_getElem hi]; rfl)
  rw [e] at hP; cases hP
  have ru':v = Value.bool bs[i] := ru
  subst ru'
  have e2:bs.getD i false = bs[i] := by rw [List.getD_eq_getElem?_getD,List.getElem?_eq_getElem hi]; rfl
  have h:Q (bs.getD i false) s := h
  rw [e2] at h
  exact wpAny_truthy_bool h
theorem all_range (bs:List Bool):(List.range bs.length).all (fun i => bs.getD i false) = bs.all id := by
  rw [Bool.eq_iff_iff,List.all_eq_true,List.all_eq_true]
  constructor
  · intro h b hb
    obtain ⟨i,hi⟩ := List.mem_iff_getElem?.mp hb
    have q := h i (List.mem_range.mpr (List.getElem?_eq_some_iff.mp hi).1)
    rw [List.getD_eq_getElem?_getD,hi] at q
    exact q
  · intro h i hi
    have hi' := List.mem_range.mp hi
    rw [List.getD_eq_getElem?_getD,List.getElem?_eq_getElem hi']
    exact h _ (List.getElem_mem hi')
theorem Ji5 (hc:X.calm = true):Jd1 X (.builtin "all") (fun xs H Q => ∃ (p:Addr) (bs:List Bool),xs = [.ref p] ∧ SqL X.K H p (bs.map V.bl) ∧ Q (.bl (bs.all id)) H) := by
  intro pins s σ H xs us Q I r h
  obtain ⟨p,bs,rfl,hq,q⟩ := h
  obtain ⟨u,rfl,rx⟩ := vals1 r
  cases rx
  obtain ⟨its,rv,pl,hz⟩ := I.list hq
  have hlen := rv.length
  rw [List.length_map] at hlen
  have hl := pl.isList
  have hlt:p < s.heap.objs.size := by obtain ⟨o,ho,_⟩ := hl; exact Heap.lt_size ho
  refine call_all_walk (wpAny_pyIter_list hl ?_)
  refine ⟨s.heap.objs.size,[s.heap.objs.size,p],[s.heap.objs.size],its.toArray.size,_,_,fun i => bs.getD i false,rfl,Walks.list (by simpa using I.ok.hd hc) s.heap.objs.size p (Nat.ne_of_lt hlt) its.toArray,⟨⟨_,Heap.get?_push_size _ rfl,rfl,rfl⟩,hl.push _⟩,Jor rv,fun h' tk k => ?_⟩
  refine ⟨.bl (bs.all id),H,I.kept (h' := h') (t' := tk) fun b o e => k b o (fun z => ?_) (Heap.get?_push_of_some _ e),?_,q⟩
  · exact absurd (List.mem_singleton.mp z) (Nat.ne_of_lt (Heap.lt_size e))
  · show Value.bool _ = Value.bool _
    rw [List.size_toArray,← hlen,all_range]

theorem Jce {K:PySem.W.Frag} {a b:String} {r:Bool} (h:(if (Value.type a == Value.type b) = true then some true else if PySem.W.kitMeta b = true then (PySem.fastBuiltinMro a).map (·.contains (.type b)) else none) = some r):PySem.W.kitOne K (.type a) (.type b) = some r := h
theorem Jpo:Jd1 X (.builtin "isinstance") (fun xs H Q => ∃ (x:V) (T:String) (t:Value) (b:Bool),xs = [x,.ty T] ∧ TyOf X.K H x t ∧ PySem.W.kitOne X.K t (.type T) = some b ∧ Q (.bl b) H) := by
  intro pins s σ H xs us Q I r h
  obtain ⟨x,T,t,b,rfl,ty,e,q⟩ := h
  obtain ⟨u,w',rfl,rx,rt⟩ := vals2 r
  cases (show w' = Value.type T from rt)
  exact Jtm I rx ty e fun tk => ⟨.bl b,H,I.tok tk,rfl,q⟩

theorem Jve:OpR X (compareOp .Is) (fun x y H Q => ∃ (c d:Bool),x = .bl c ∧ y = .bl d ∧ Q (.bl (decide (c = d))) H) := by
  intro pins s σ H x y v u Q I rx ry h
  obtain ⟨c,d,rfl,rfl,q⟩ := h
  cases (show v = Value.bool c from rx)
  cases (show u = Value.bool d from ry)
  refine is_bool ⟨.bl (decide (c = d)),H,I,?_,q⟩
  show Value.bool _ = Value.bool _
  cases c <;> cases d <;> rfl

theorem Jpn:Jd1 X (.type "range") (fun xs H Q => ∃ (n:Int),xs = [.int n] ∧ ∀ p,H p = none → Q (.ref p) (upd H p (.rng 0 n))) := by
  intro pins s σ H xs us Q I r h
  obtain ⟨n,rfl,q⟩ := h
  obtain ⟨u,rfl,rx⟩ := vals1 r
  obtain ⟨t,rfl⟩ := (show ∃ t,u = Value.int n t from rx)
  exact call_range_1 ⟨.ref s.heap.objs.size,_,I.laid (o := .rng 0 n) (fun _ _ e => Heap.get?_push_of_some _ e) (Nat.le_refl _) ⟨_,_,_,Heap.get?_push_size _ rfl⟩,rfl,q _ (I.hok.fresh (Nat.le_refl _))⟩
theorem Jpm:Jd1 X (.type "range") (fun xs H Q => ∃ (a b:Int),xs = [.int a,.int b] ∧ ∀ p,H p = none → Q (.ref p) (upd H p (.rng a b))) := by
  intro pins s σ H xs us Q I r h
  obtain ⟨a,b,rfl,q⟩ := h
  obtain ⟨u,w',rfl,rx,ry⟩ := vals2 r
  obtain ⟨t,rfl⟩ := (show ∃ t,u = Value.int a t from rx)
  obtain ⟨t',rfl⟩ := (show ∃ t,w' = Value.int b t from ry)
  exact call_range_2 ⟨.ref s.heap.objs.size,_,I.laid (o := .rng a b) (fun _ _ e => Heap.get?_push_of_some _ e) (Nat.le_refl _) ⟨_,_,_,Heap.get?_push_size _ rfl⟩,rfl,q _ (I.hok.fresh (Nat.le_refl _))⟩
def upTo (lo:Int) (n:Nat):List Int := (List.range n).map fun (i:Nat) => lo + i
theorem Jla (hc:X.calm = true):Jd1 X (.type "list") (fun xs H Q => ∃ (r:Addr) (lo hi:Int),xs = [.ref r] ∧ H r = some (.rng lo hi) ∧ -(2 ^ 62) ≤ lo ∧ lo < 2 ^ 62 ∧ -(2 ^ 62) ≤ hi ∧ hi < 2 ^ 62 ∧ (hi - lo).toNat ≤ 1000 ∧
    ∀ l,H l = none → Q (.ref l) (upd H l (.lst ((upTo lo (hi - lo).toNat).map V.int)))) := by
  intro pins s σ H xs us Q I rr h
  obtain ⟨r,lo,hi,rfl,hH,h1,h2,h3,h4,h5,q⟩ := h
  obtain ⟨u,rfl,rx⟩ := vals1 rr
  cases rx
  obtain ⟨t,u,v,e⟩ := (show Jek X.prog X.w H s.heap r (.rng lo hi) from I.hok r _ hH)
  have hsz:Builtin.Range.rangeSize lo hi 1 = (((hi - lo).toNat:Nat):Int) := by rw [rangeSize_one]; split <;> omega
  refine call_list_range (a := lo) (b := hi) (c := 1) (I.ok.hd hc) e (small_one h1 h2 h3 h4) hsz (by omega) fun h' tk acc c k eS hacc => ?_
  refine ⟨.ref s.heap.objs.size,_,I.laid (o := .lst ((upTo lo (hi - lo).toNat).map V.int)) (t' := tk) k (Nat.le_refl _) ⟨?_,acc.toList,c,?_,by simpa using eS⟩,rfl,q _ (I.hok.fresh (Nat.le_refl _))⟩
  · unfold upTo
    rw [List.length_map,List.length_map,List.length_range]
    exact Nat.le_of_lt (Jm5 h5)
  · have gen:∀ (l:List Value) (j:Nat),(∀ (i:Nat) (v:Value),l[i]? = some v → ∃ t,v = Value.int (lo + ((i + j:Nat):Int)) t) → Vals (((List.range' j l.length).map fun (i:Nat) => lo + i).map V.int) l := by
      intro l
      induction l with
      | nil => intro j _; exact .nil
      | cons x r ih =>
        intro j hx
        obtain ⟨t,e⟩ := hx 0 x rfl
        subst e
        rw [List.length_cons,List.range'_succ]
        refine .cons ⟨t,by simp⟩ (ih (j + 1) fun i v hv => ?_)
        obtain ⟨t',e'⟩ := hx (i + 1) v (by simpa using hv)
        exact ⟨t',by rw [e',show i + 1 + j = i + (j + 1) by omega]⟩
    have q2 := gen acc.toList 0 fun i v hv => by
      obtain ⟨t',e'⟩ := hacc.2 i v (by simpa using hv)
      exact ⟨t',by rw [e']; simp⟩
    have el:acc.toList.length = (hi - lo).toNat := by simpa using hacc.1
    rw [el,← List.range_eq_range'] at q2
    exact q2

theorem Inv.big {pins:List (Addr × Obj)} {σ:St} {H:Hp} {s:Shared} (I:Inv X pins σ H s):sysModules < s.heap.objs.size := by
  obtain ⟨o,_,_,e,_⟩ := I.ok.mod.glob
  exact Nat.lt_trans (by decide:(1:Nat) < 3) (Heap.lt_size (I.bk _ _ e))
end
end L2
end
section
set_option Elab.async false
set_option maxRecDepth 10000
set_option linter.all false
namespace L2
open PySem PySem.Spec PyProof.Rows

mutual
inductive Tr (N:Addr → Prop) (H:Hp):V → PyData → Prop
  | non:Tr N H .non .none
  | bl (b:Bool):Tr N H (.bl b) (.bool b)
  | int (i:Int):Tr N H (.int i) (.int i)
  | str (x:Str):Tr N H (.str x) (.str x)
  | lst {a:Addr} {xs:List V} {ds:List PyData}:N a → H a = some (.lst xs) → Jbw N H xs ds → Tr N H (.ref a) (.list ds)
  | tup {a:Addr} {xs:List V} {ds:List PyData}:N a → H a = some (.tup xs) → Jbw N H xs ds → Tr N H (.ref a) (.tuple ds)
  | dct {a:Addr}:N a → H a = some (.dK []) → Tr N H (.ref a) (.dict [])
inductive Jbw (N:Addr → Prop) (H:Hp):List V → List PyData → Prop
  | nil:Jbw N H [] []
  | cons {x:V} {d:PyData} {xs:List V} {ds:List PyData}:Tr N H x d → Jbw N H xs ds → Jbw N H (x :: xs) (d :: ds)
end

section
variable {N N':Addr → Prop} {H H':Hp}
theorem Jbw.length:∀ {xs:List V} {ds:List PyData},Jbw N H xs ds → xs.length = ds.length
  | _,_,.nil => rfl
  | _,_,.cons _ t => by rw [List.length_cons,List.length_cons,Jbw.length t]
theorem Jbw.append:∀ {xs ys:List V} {ds es:List PyData},Jbw N H xs ds → Jbw N H ys es → Jbw N H (xs ++ ys) (ds ++ es)
  | _,_,_,_,.nil,t => t
  | _,_,_,_,.cons r s,t => .cons r (Jbw.append s t)
theorem Jbw.take:∀ {xs:List V} {ds:List PyData} (n:Nat),Jbw N H xs ds → Jbw N H (xs.take n) (ds.take n)
  | _,_,0,_ => .nil
  | _,_,_ + 1,.nil => .nil
  | _,_,n + 1,.cons r t => .cons r (Jbw.take n t)
theorem Jbw.drop:∀ {xs:List V} {ds:List PyData} (n:Nat),Jbw N H xs ds → Jbw N H (xs.drop n) (ds.drop n)
  | _,_,0,r => r
  | _,_,_ + 1,.nil => .nil
  | _,_,n + 1,.cons _ t => Jbw.drop n t
theorem Jbw.get:∀ {xs:List V} {ds:List PyData} {i:Nat} {x:V},Jbw N H xs ds → xs[i]? = some x → ∃ d,ds[i]? = some d ∧ Tr N H x d
  | _,_,_,_,.nil,e => by simp at e
  | _,_,0,_,.cons r _,e => by simp at e; subst e; exact ⟨_,rfl,r⟩
  | _,_,i + 1,x,.cons _ t,e => by
    obtain ⟨d,h1,h2⟩ := Jbw.get (i := i) (x := x) t (by simpa using e)
    exact ⟨d,by simpa using h1,h2⟩
theorem Jbw.getD:∀ {xs:List V} {ds:List PyData} {i:Nat} {d:PyData},Jbw N H xs ds → ds[i]? = some d → ∃ x,xs[i]? = some x ∧ Tr N H x d
  | _,_,_,_,.nil,e => by simp at e
  | _,_,0,_,.cons r _,e => by simp at e; subst e; exact ⟨_,rfl,r⟩
  | _,_,i + 1,d,.cons _ t,e => by
    obtain ⟨x,h1,h2⟩ := Jbw.getD (i := i) (d := d) t (by simpa using e)
    exact ⟨x,by simpa using h1,h2⟩
mutual
theorem Tr.keep (e:∀ b o,N b → H b = some o → H' b = some o):∀ {v:V} {d:PyData},Tr N H v d → Tr N H' v d
  | _,_,.non => .non
  | _,_,.bl b => .bl b
  | _,_,.int i => .int i
  | _,_,.str x => .str x
  | _,_,.lst n h t => .lst n (e _ _ n h) (Jbw.keep e t)
  | _,_,.tup n h t => .tup n (e _ _ n h) (Jbw.keep e t)
  | _,_,.dct n h => .dct n (e _ _ n h)
theorem Jbw.keep (e:∀ b o,N b → H b = some o → H' b = some o):∀ {xs:List V} {ds:List PyData},Jbw N H xs ds → Jbw N H' xs ds
  | _,_,.nil => .nil
  | _,_,.cons r t => .cons (Tr.keep e r) (Jbw.keep e t)
end
theorem Tr.same (e:Same H H') {v:V} {d:PyData} (t:Tr N H v d):Tr N H' v d := t.keep fun b o _ h => e b o h
theorem Jbw.same (e:Same H H') {xs:List V} {ds:List PyData} (t:Jbw N H xs ds):Jbw N H' xs ds := t.keep fun b o _ h => e b o h
end

section
variable {N:Addr → Prop} {P:Program} {w:World} {H:Hp} {h:Heap}
mutual
theorem Tr.reads (ok:HOk P w H h) (hs:H sysModules = none):∀ {v:V} {d:PyData},Tr N H v d → ∀ u,RelV v u → ∃ as,Reads h u d as ∧ sysModules ∉ as
  | _,_,.non,u,r => ⟨[],by cases (show u = Value.none from r); exact .none,by simp⟩
  | _,_,.bl b,u,r => ⟨[],by cases (show u = Value.bool b from r); exact .bool b,by simp⟩
  | _,_,.int i,u,r => by obtain ⟨t,rfl⟩ := (show ∃ t,u = Value.int i t from r); exact ⟨[],.int i t,by simp⟩
  | _,_,.str x,u,r => by obtain ⟨t,rfl⟩ := (show ∃ t,u = Value.str x t from r); exact ⟨[],.str x t,by simp⟩
  | _,_,.lst (a := a) (xs := xs) (ds := ds) _ hH t,u,r => by
    cases (show u = Value.ref a from r)
    obtain ⟨_,its,n,rv,e⟩ := (show Jek P w H h a (.lst xs) from ok a _ hH)
    obtain ⟨as,ra,na⟩ := Jbw.reads ok hs t its rv
    refine ⟨a :: as,.list e rfl rfl (by simpa using ra),fun z => ?_⟩
    rcases List.mem_cons.mp z with z | z
    · rw [z] at hs; rw [hs] at hH; cases hH
    · exact na z
  | _,_,.tup (a := a) (xs := xs) (ds := ds) _ hH t,u,r => by
    cases (show u = Value.ref a from r)
    obtain ⟨_,its,rv,ob,e,c,n,d⟩ := (show Jek P w H h a (.tup xs) from ok a _ hH)
    obtain ⟨as,ra,na⟩ := Jbw.reads ok hs t its rv
    exact ⟨as,.tuple e c d (by simpa using ra),na⟩
  | _,_,.dct (a := a) _ hH,u,r => by
    cases (show u = Value.ref a from r)
    obtain ⟨_,y,vs,kv,o,es,ep,e,ex,d,el⟩ := (show Jek P w H h a (.dK []) from ok a _ hH)
    cases kv
    have e0:es.toList = [] := by
      have q:Pairs (Jpe P w) es.toList [] := el.2.1
      generalize es.toList = l at q
      cases q
      rfl
    refine ⟨[a],.dict (as := []) (bs := []) e ex.1 d (by rw [e0]; exact .nil) (by rw [e0]; exact .nil),fun z => ?_⟩
    have z' := List.mem_singleton.mp z
    rw [← z'] at y
    simp at y
theorem Jbw.reads (ok:HOk P w H h) (hs:H sysModules = none):∀ {xs:List V} {ds:List PyData},Jbw N H xs ds → ∀ us,Vals xs us → ∃ as,ReadsAll h us ds as ∧ sysModules ∉ as
  | _,_,.nil,us,r => by cases r; exact ⟨[],.nil,by simp⟩
  | _,_,.cons t ts,us,r => by
    cases r with
    | cons rx rr =>
      obtain ⟨as,ra,na⟩ := Tr.reads ok hs t _ rx
      obtain ⟨bs,rb,nb⟩ := Jbw.reads ok hs ts _ rr
      exact ⟨as ++ bs,.cons ra rb,fun z => (List.mem_append.mp z).elim na nb⟩
end
end

section
variable {X:Cx}
theorem JBk {k:Nat} (hr:Room k X.A):OpR X (compareOp .Eq) (fun x y H Q => ∃ (N N':Addr → Prop) (d e:PyData),Tr N H x d ∧ Tr N' H y e ∧ SeqAt.shaped d = true ∧ SeqAt.shaped e = true ∧ Q (.bl (PyData.eqv d e)) H) := by
  intro pins s σ H x y v u Q I rx ry h
  obtain ⟨N,N',d,e,t1,t2,s1,s2,q⟩ := h
  obtain ⟨as,ra,_⟩ := t1.reads I.hok I.sysN v rx
  obtain ⟨bs,rb,_⟩ := t2.reads I.hok I.sysN u ry
  exact SeqAt.compareEq_shaped ra rb s1 s2 hr.units ⟨.bl _,H,I,rfl,q⟩
theorem JBg {k:Nat} (hr:Room k X.A):OpR X (compareOp .NotEq) (fun x y H Q => ∃ (N N':Addr → Prop) (d e:PyData),Tr N H x d ∧ Tr N' H y e ∧ SeqAt.shaped d = true ∧ SeqAt.shaped e = true ∧ Q (.bl (!PyData.eqv d e)) H) := by
  intro pins s σ H x y v u Q I rx ry h
  obtain ⟨N,N',d,e,t1,t2,s1,s2,q⟩ := h
  obtain ⟨as,ra,_⟩ := t1.reads I.hok I.sysN v rx
  obtain ⟨bs,rb,_⟩ := t2.reads I.hok I.sysN u ry
  exact SeqAt.compareNe_shaped ra rb s1 s2 hr.units ⟨.bl _,H,I,rfl,q⟩
end
end L2
end
section
set_option Elab.async false
set_option maxRecDepth 10000
set_option linter.all false
namespace HT
open PySem PySem.Spec PyProof.Rows
section
variable {prog:Program} {w:World} {A:Around} {E:Value → Shared → Prop} {s:Shared}
theorem Jwp {t b:Addr} {ws:List Value} {Q:Value → Shared → Prop} (ht:IsTup s.heap t ([]:List Value).toArray) (hb:IsTup s.heap b ws.toArray) (h:Q (.ref b) s):wpAny (model prog w) A (binaryOp .Add (.ref t) (.ref b)) Q E s := by
  obtain ⟨⟨c1,d1,x1,sl1⟩,ho,hc,n,hd⟩ := id ht
  obtain ⟨⟨c2,d2,x2,sl2⟩,ho2,hc2,n2,hd2⟩ := id hb
  simp only at hc hd hc2 hd2
  subst hc hd hc2 hd2
  exact concat_meets ⟨_,ho,rfl⟩ ⟨_,ho2,rfl⟩ noFill_tuple_add seq_tuple_add PySem.F.slot_tuple_add PySem.F.entry_tuple_add (PySem.F.args_tuple_add_2 _ _) (tuple_addW0 t b _ ws.toArray n n2 d1 d2 sl1 sl2 (by simp)) ⟨ho,ho2,h⟩
theorem Jos {t sl:Addr} {items:Array Value} {vl vu:Value} {lo hi:Option Int} {Q:Value → Shared → Prop} (ht:IsTup s.heap t items) (hs:s.heap.IsSliceOf sl vl vu .none) (pl:IsPart vl lo) (pu:IsPart vu hi)
    (hw:sIx items.size 0 lo = 0 ∧ sIx items.size items.size hi = items.size) (h:Q (.ref t) s):wpAny (model prog w) A (getItem (.ref t) (.ref sl)) Q E s := by
  obtain ⟨os,hos,hcs,hds⟩ := id hs
  have hTs:s.TypeIs (.ref sl) "slice" := ⟨os,hos,hcs⟩
  unfold getItem
  try with_reducible refine wpAny_holding ?_
  first | refine wpAny_bind (wpAny_pure ?_) | skip
  refine wpAny_bind (wpAny_sequenceKey ht.typeIs (by decide) ?_)
  refine wpAny_bind (wpAny_callSpecial?_slot (name := Str.ofString "__getitem__") ht.typeIs PyProof.Rows.slot_tuple_getitem (wpAny_call_entry PyProof.Rows.slot_tuple_getitem ht.typeIs entry_tuple_getitem ?_ (args_tuple_getitem _ _)))
  show wpAny _ _ (Builtin.Tuple.tupleItemsOf (.ref t) >>= _) _ _ s
  refine wpAny_bind (tupleItemsOf_ ht (wpAny_bind (wpAny_typeOf hTs ?_)))
  rw [if_pos (by decide)]
  refine wpAny_bind (Jgw hs pl pu ?_)
  have yes:(((sIx items.size 0 lo:Nat):Int) == 0 && (1:Int) == 1 && (sIx items.size items.size hi - sIx items.size 0 lo) == items.size) = true := by
    rw [hw.1,hw.2]; simp
  show wpAny _ _ (if (((sIx items.size 0 lo:Nat):Int) == 0 && (1:Int) == 1 && (sIx items.size items.size hi - sIx items.size 0 lo) == items.size) = true then _ else _) _ _ s
  rw [if_pos yes]
  unfold Builtin.Tuple.tupleIsExact
  refine wpAny_bind (wpAny_bind (wpAny_typeOf ht.typeIs (wpAny_pure ?_)))
  rw [if_pos (by decide)]
  exact wpAny_bind (wpAny_rule (wpAny_pure ⟨_,rfl,wpAny_pure h⟩))
theorem Jqh (xs:Array Value):((List.range xs.size).filterMap fun (m:Nat) => xs[(((xs.size:Int) - 1) + (m:Int) * (-1)).toNat]?) = xs.toList.reverse := by
  have e:∀ m ∈ List.range xs.size,xs[(((xs.size:Int) - 1) + (m:Int) * (-1)).toNat]? = some (xs.toList.reverse.getD m .none) := fun m hm => by
    have hm' := List.mem_range.mp hm
    have q:(((xs.size:Int) - 1) + (m:Int) * (-1)).toNat = xs.size - 1 - m := by omega
    rw [q,Array.getElem?_eq_getElem (by omega),List.getD_eq_getElem?_getD,List.getElem?_reverse (by rw [Array.length_toList]; exact hm'),Array.length_toList,Array.getElem?_toList,Array.getElem?_eq_getElem (by omega)]
    rfl
  have all:∀ (l:List Nat) (f:Nat → Option Value) (g:Nat → Value),(∀ m ∈ l,f m = some (g m)) → l.filterMap f = l.map g := by
    intro l f g
    induction l with
    | nil => intro _; rfl
    | cons a r ih =>
      intro h
      rw [List.filterMap_cons_some (h a List.mem_cons_self),List.map_cons,ih fun m hm => h m (List.mem_cons_of_mem _ hm)]
  rw [all _ _ _ e]
  have len:(List.map (fun m => xs.toList.reverse.getD m .none) (List.range xs.size)).length = xs.toList.reverse.length := by simp
  refine List.ext_getElem len fun j h1 h2 => ?_
  rw [List.getElem_map,List.getElem_range,List.getD_eq_getElem?_getD,List.getElem?_eq_getElem h2]
  rfl
theorem Jsb {t sl:Addr} {items:Array Value} {t0:Tok} {Q:Value → Shared → Prop} (ht:IsTup s.heap t items) (hs:s.heap.IsSliceOf sl .none .none (.int (-1) t0)) (hsz:items.size ≤ sizeLine)
    (h:Q (.ref s.heap.objs.size) { s with heap := s.heap.push { cls := .type "tuple",data := .seq items.toList.reverse.toArray } }):wpAny (model prog w) A (getItem (.ref t) (.ref sl)) Q E s := by
  obtain ⟨os,hos,hcs,hds⟩ := id hs
  have hTs:s.TypeIs (.ref sl) "slice" := ⟨os,hos,hcs⟩
  have fits:sizeOk (.seq items.toList.reverse.toArray) := by
    show items.toList.reverse.toArray.size ≤ sizeLine
    simpa using hsz
  unfold getItem
  try with_reducible refine wpAny_holding ?_
  first | refine wpAny_bind (wpAny_pure ?_) | skip
  refine wpAny_bind (wpAny_sequenceKey ht.typeIs (by decide) ?_)
  refine wpAny_bind (wpAny_callSpecial?_slot (name := Str.ofString "__getitem__") ht.typeIs PyProof.Rows.slot_tuple_getitem (wpAny_call_entry PyProof.Rows.slot_tuple_getitem ht.typeIs entry_tuple_getitem ?_ (args_tuple_getitem _ _)))
  show wpAny _ _ (Builtin.Tuple.tupleItemsOf (.ref t) >>= _) _ _ s
  refine wpAny_bind (tupleItemsOf_ ht (wpAny_bind (wpAny_typeOf hTs ?_)))
  rw [if_pos (by decide)]
  refine wpAny_bind ?_
  unfold Builtin.Slice.sliceApplied Builtin.Slice.sliceFields
  refine wpAny_bind (wpAny_bind (wpAny_field hos hds (x := .none) rfl (wpAny_bind (wpAny_field hos hds (x := .none) rfl (wpAny_bind (wpAny_field hos hds (x := .int (-1) t0) rfl (wpAny_pure ?_)))))))
  refine wpAny_bind (slicePart_int ?_)
  show wpAny _ _ (if ((-1:Int) == 0) = true then _ else _) _ _ s
  rw [if_neg (by decide)]
  refine wpAny_bind (slicePart_none (wpAny_bind (slicePart_none (wpAny_bind (wpAny_pure ?_)))))
  have adj:Builtin.Slice.sliceAdjust none none (-1) (items.size:Int) = ((items.size:Int) - 1,-1) := by
    unfold Builtin.Slice.sliceAdjust; simp
  show wpAny _ _ (match Builtin.Slice.sliceAdjust none none (-1) (items.size:Int) with | (lo,hi) => pure (lo,(-1:Int),Builtin.Slice.slicePlaces lo hi (-1))) _ _ s
  rw [adj]
  have pl:Builtin.Slice.slicePlaces ((items.size:Int) - 1) (-1) (-1) = items.size := by
    unfold Builtin.Slice.slicePlaces
    rw [if_neg (by decide)]
    by_cases hz:(items.size:Int) - 1 > -1
    · rw [if_pos hz]
      have e1:(-(-1:Int)) = 1 := rfl
      rw [e1,Int.ediv_one]; omega
    · rw [if_neg hz]; omega
  dsimp only
  rw [pl]
  refine wpAny_pure ?_
  have no:¬ ((((items.size:Int) - 1) == 0 && (-1:Int) == 1 && items.size == items.size) = true) := by simp
  show wpAny _ _ (if (((items.size:Int) - 1) == 0 && (-1:Int) == 1 && items.size == items.size) = true then _ else _) _ _ s
  rw [if_neg no,Jqh]
  first
    | exact wpAny_bind (m := Builtin.Tuple.tupleExact _) (wpAny_newObj_type (wpAny_pure ⟨_,rfl,wpAny_pure h⟩) fits)
    | exact wpAny_bind (m := Builtin.Tuple.tupleExact _) (wpAny_newObj_type (wpAny_bind (wpAny_pure (wpAny_pure ⟨_,rfl,wpAny_pure h⟩))) fits)
    | exact wpAny_bind (wpAny_bind (m := Builtin.Tuple.tupleExact _) (wpAny_newObj_type (wpAny_pure ⟨_,rfl,wpAny_pure h⟩) fits))
end
end HT

namespace L2
open PySem PySem.Spec PyProof.Rows
theorem Jby {H:Hp} {p:Addr} (h:H p = none) (o:HO):Same H (upd H p o) := fun b u q => by rw [Jbg (Jb6 q h)]; exact q
theorem Jry (xs:List V) (lo hi:Option Int) (h:HT.sIx xs.length 0 lo = 0 ∧ HT.sIx xs.length xs.length hi = xs.length):cutV xs lo hi = xs := by
  unfold cutV
  rw [h.1,h.2,List.drop_zero,Nat.sub_zero,List.take_length]
section
variable {X:Cx}
theorem Jyz:OpR X (binaryOp .Add) (fun x y H Q => ∃ (a b:Addr) (xs ys:List V),x = .ref a ∧ y = .ref b ∧ H a = some (.tup xs) ∧ H b = some (.tup ys) ∧ xs.length + ys.length ≤ sizeLine ∧ ∀ p H',Same H H' → H' p = some (.tup (xs ++ ys)) → Q (.ref p) H') := by
  intro pins s σ H x y v u Q I rx ry h
  obtain ⟨a,b,xs,ys,rfl,rfl,ha,hb,hz,q⟩ := h
  by_cases hx:xs = []
  · subst hx
    cases rx
    cases ry
    obtain ⟨its,r1,p1,_⟩ := I.tuple (SqT.of ha)
    obtain ⟨its2,r2,p2,_⟩ := I.tuple (SqT.of hb)
    cases r1
    exact HT.Jwp p1 p2 ⟨.ref b,H,I,rfl,q b H (Same.refl H) hb⟩
  · refine Jyy pins s σ H _ _ v u Q I rx ry ⟨a,b,xs,ys,rfl,rfl,SqT.of ha,SqT.of hb,hx,hz,fun z => ?_,fun _ p hp => q p _ (Jby hp _) Jbj⟩
    subst z
    exact q a H (Same.refl H) (by rw [List.append_nil]; exact ha)
theorem Jx7:SlR X (fun x lo hi H Q => ∃ (a:Addr) (xs:List V),x = .ref a ∧ H a = some (.tup xs) ∧ ∀ p H',Same H H' → H' p = some (.tup (cutV xs lo hi)) → Q (.ref p) H') := by
  intro pins s σ H x v vl vu lo hi sl Q I rx hs pl pu h
  obtain ⟨a,xs,rfl,ha,q⟩ := h
  by_cases hw:HT.sIx xs.length 0 lo = 0 ∧ HT.sIx xs.length xs.length hi = xs.length
  · cases rx
    obtain ⟨its,r,ht,hz⟩ := I.tuple (SqT.of ha)
    have hlen:its.toArray.size = xs.length := by rw [List.size_toArray]; exact r.length.symm
    refine ⟨"tuple",_,PyProof.Rows.slot_tuple_getitem.lookup,ht.typeIs,?_⟩
    exact HT.Jos ht hs pl pu (by rw [hlen]; exact hw) ⟨.ref a,H,I,rfl,q a H (Same.refl H) (by rw [Jry xs lo hi hw]; exact ha)⟩
  · exact JAm pins s σ H _ v vl vu lo hi sl Q I rx hs pl pu ⟨a,xs,rfl,SqT.of ha,hw,fun p hp => q p _ (Jby hp _) Jbj⟩
theorem Jvf {d:Addr} {D:List (PyData × PyData)} (hT:∀ h,X.K.In h → IntTab X.prog X.w h d D):OpR X (compareOp .In) (fun x y H Q => ∃ (i:Int),x = .int i ∧ y = .ref d ∧ Q (.bl (lookup (.int i) D).isSome) H) := by
  intro pins s σ H x y v u Q I rx ry h
  obtain ⟨i,rfl,rfl,q⟩ := h
  obtain ⟨t,rfl⟩ := (show ∃ t,v = Value.int i t from rx)
  cases ry
  exact in_intTab (hT _ I.kIn) ⟨.bl _,H,I.tok _,rfl,q⟩
theorem tab3 {P:Program} {w:World} {K:PySem.W.Frag} {d:Addr} {ep:Nat} {h1 h2 h3 k1 k2 k3 v1 v2 v3:Int} {t1 t2 t3 u1 u2 u3:Tok} (hd:(d == sysModules) = false)
    (l:K.lookup d = some { cls := .type "dict",data := .dict #[⟨h1,.int k1 t1,.int v1 u1⟩,⟨h2,.int k2 t2,.int v2 u2⟩,⟨h3,.int k3 t3,.int v3 u3⟩] ep })
    (e1:h1 = hashInt k1) (e2:h2 = hashInt k2) (e3:h3 = hashInt k3) (nd:[k1,k2,k3].Nodup):∀ h,K.In h → IntTab P w h d [(.int k1,.int v1),(.int k2,.int v2),(.int k3,.int v3)] := by
  intro h kin
  refine ⟨hd,[(k1,.int v1 u1),(k2,.int v2 u2),(k3,.int v3 u3)],⟨_,_,ep,kin _ _ l,⟨rfl,rfl,rfl⟩,rfl,?_,?_,nd⟩,?_⟩
  · intro e he
    simp only [List.mem_toArray,List.mem_cons,List.not_mem_nil,or_false] at he
    rcases he with z | z | z
    · subst z; exact ⟨k1,intKind_is P w k1 t1,e1⟩
    · subst z; exact ⟨k2,intKind_is P w k2 t2,e2⟩
    · subst z; exact ⟨k3,intKind_is P w k3 t3,e3⟩
  · exact .cons (intKind_is P w k1 t1) rfl (.cons (intKind_is P w k2 t2) rfl (.cons (intKind_is P w k3 t3) rfl .nil))
  · exact .cons (.int v1 u1) (.cons (.int v2 u2) (.cons (.int v3 u3) .nil))
end
end L2
end
section
set_option Elab.async false
set_option maxRecDepth 10000
set_option linter.all false
namespace L2
open PySem PySem.Spec PyProof.Rows

def Cal (P:Program) (w:World) (K:PySem.W.Frag) (mg:Str → Option Value) (base:Heap) (x:Str) (k:Nat) (ps:List Str) (sp:Sp):Prop :=
  ∃ f fd,FnOk P w K mg base CX0 k f fd ps sp ∧ Binds K fd ps [] ∧ PySem.W.keepIn K (.ref f) = true ∧ mg x = some (.ref f)
section
variable {X:Cx}
theorem Jl5 {x:Str} {k k':Nat} {ps:List Str} {sp:Sp} {e:Expr} {es:List Expr} {t:TA} {p pos:Pos} (c:Cal X.prog X.w X.K X.mg X.base x k ps sp) (hr:Room k' X.A) (hk:k ≤ k') (hg:Gl X x) (ha:PA X (e :: es) t)
    (hdb:(x == ("__debug__":Str)) = false := by decide) (he:starEach (e :: es) X.env = (false,eval e X.env) :: starEach es X.env := by rfl) (hpl:(backTo pos (starEach es X.env)).any (·.1) = false := by rfl) :
    PE X (.Call (.Name x p) (e :: es) [] pos) (JAk sp [] E0 t) := by
  obtain ⟨f,fd,F,b,kp,m⟩ := c
  exact Jyu (F.mono hk) hr hg m kp b .nil JDt ha hdb he hpl

theorem Jgk:OpR X (binaryOp .FloorDiv) (rI (fun _ j => 0 < j ∧ j < 2 ^ 64) fun i j => .int (i / j)) := opI fun i j _ _ _ _ _ hc q => by
  rw [← Int.fdiv_eq_ediv_of_nonneg _ (Int.le_of_lt hc.1)] at q
  refine floordiv_int (Int.ne_of_gt hc.1) q (.inl (PyProof.noPylong_of_log2 ?_))
  have h1:j.natAbs < 2 ^ 64 := by omega
  have h2:j.natAbs ≠ 0 := by omega
  exact Nat.lt_trans ((Nat.log2_lt h2).mpr h1) (by decide)
end

theorem Je4:bootBuiltins "len" = some (.builtin "len") := by decide +kernel
theorem Jdg:bootBuiltins "isinstance" = some (.builtin "isinstance") := by decide +kernel
theorem Joh:bootBuiltins "all" = some (.builtin "all") := by decide +kernel
theorem Juc:bootBuiltins "sorted" = some (.builtin "sorted") := by decide +kernel
theorem Jog:bootBuiltins "min" = some (.builtin "min") := by decide +kernel
theorem Jjx:bootBuiltins "max" = some (.builtin "max") := by decide +kernel
theorem Jxq:bootBuiltins "abs" = some (.builtin "abs") := by decide +kernel
theorem JCk:bootBuiltins "set" = some (.type "set") := by decide +kernel
theorem Jud:bootBuiltins "list" = some (.type "list") := by decide +kernel
theorem Jdk:bootBuiltins "tuple" = some (.type "tuple") := by decide +kernel
theorem Jws:bootBuiltins "range" = some (.type "range") := by decide +kernel
theorem Jxp:bootBuiltins "int" = some (.type "int") := by decide +kernel
theorem Jz2:bootBuiltins "bool" = some (.type "bool") := by decide +kernel
def Jmw:List Str := ["len","isinstance","all","sorted","min","max","abs","repr","set","list","tuple","range","int","bool","str"]
def Blt (mg:Str → Option Value):Prop := ∀ x ∈ Jmw,mg x = none
theorem Blt.is {mg:Str → Option Value} (b:Blt mg) (x:Str) (h:Jmw.contains x = true := by decide +kernel):mg x = none := b x (List.contains_iff_mem.mp h)

def tyName:PyData → String
  | .none => "NoneType"
  | .bool _ => "bool"
  | .int _ => "int"
  | .str _ => "str"
  | .list _ => "list"
  | .tuple _ => "tuple"
  | .dict _ => "dict"
theorem Tr.ty {N:Addr → Prop} {K:PySem.W.Frag} {H:Hp} {v:V} {d:PyData} (t:Tr N H v d):TyOf K H v (.type (tyName d)) := by
  cases t with
  | non => exact .non
  | bl b => exact .bl b
  | int i => exact .int i
  | str x => exact .str x
  | lst _ h _ => exact .lst h
  | tup _ h _ => exact .tup h
  | dct _ h => exact .dK h
def isTy (T:String) (d:PyData):Bool := match T with
  | "int" => (match d with | .int _ => true | .bool _ => true | _ => false)
  | "bool" => (match d with | .bool _ => true | _ => false)
  | "tuple" => (match d with | .tuple _ => true | _ => false)
  | "list" => (match d with | .list _ => true | _ => false)
  | _ => false
theorem Jzd {K:PySem.W.Frag} (d:PyData):PySem.W.kitOne K (.type (tyName d)) (.type "int") = some (isTy "int" d) := by
  cases d with
  | none => exact Jce (a := "NoneType") (r := false) (by decide +kernel)
  | bool _ => exact Jce (a := "bool") (r := true) (by decide +kernel)
  | int _ => exact Jce (a := "int") (r := true) (by decide +kernel)
  | str _ => exact Jce (a := "str") (r := false) (by decide +kernel)
  | list _ => exact Jce (a := "list") (r := false) (by decide +kernel)
  | tuple _ => exact Jce (a := "tuple") (r := false) (by decide +kernel)
  | dict _ => exact Jce (a := "dict") (r := false) (by decide +kernel)
theorem Jvx {K:PySem.W.Frag} (d:PyData):PySem.W.kitOne K (.type (tyName d)) (.type "bool") = some (isTy "bool" d) := by
  cases d with
  | none => exact Jce (a := "NoneType") (r := false) (by decide +kernel)
  | bool _ => exact Jce (a := "bool") (r := true) (by decide +kernel)
  | int _ => exact Jce (a := "int") (r := false) (by decide +kernel)
  | str _ => exact Jce (a := "str") (r := false) (by decide +kernel)
  | list _ => exact Jce (a := "list") (r := false) (by decide +kernel)
  | tuple _ => exact Jce (a := "tuple") (r := false) (by decide +kernel)
  | dict _ => exact Jce (a := "dict") (r := false) (by decide +kernel)
theorem kit_tuple {K:PySem.W.Frag} (d:PyData):PySem.W.kitOne K (.type (tyName d)) (.type "tuple") = some (isTy "tuple" d) := by
  cases d with
  | none => exact Jce (a := "NoneType") (r := false) (by decide +kernel)
  | bool _ => exact Jce (a := "bool") (r := false) (by decide +kernel)
  | int _ => exact Jce (a := "int") (r := false) (by decide +kernel)
  | str _ => exact Jce (a := "str") (r := false) (by decide +kernel)
  | list _ => exact Jce (a := "list") (r := false) (by decide +kernel)
  | tuple _ => exact Jce (a := "tuple") (r := true) (by decide +kernel)
  | dict _ => exact Jce (a := "dict") (r := false) (by decide +kernel)
theorem Jvw {K:PySem.W.Frag} (d:PyData):PySem.W.kitOne K (.type (tyName d)) (.type "list") = some (isTy "list" d) := by
  cases d with
  | none => exact Jce (a := "NoneType") (r := false) (by decide +kernel)
  | bool _ => exact Jce (a := "bool") (r := false) (by decide +kernel)
  | int _ => exact Jce (a := "int") (r := false) (by decide +kernel)
  | str _ => exact Jce (a := "str") (r := false) (by decide +kernel)
  | list _ => exact Jce (a := "list") (r := true) (by decide +kernel)
  | tuple _ => exact Jce (a := "tuple") (r := false) (by decide +kernel)
  | dict _ => exact Jce (a := "dict") (r := false) (by decide +kernel)
end L2
end
section
set_option Elab.async false
set_option maxRecDepth 10000
set_option linter.all false
namespace L2
open PySem PySem.Spec PyProof.Rows

def Jmf:PyData → Bool
  | .none => true
  | .bool _ => true
  | .int i => decide (i.natAbs < 10 ^ 41)
  | .str x => decide (x.length ≤ 30) && x.cps.toList.all fun c => decide (c < 16 ^ 8)
  | .dict kvs => kvs.isEmpty
  | _ => false
def fit:List Nat → PyData → Bool
  | w :: ws,.list xs => decide (xs.length ≤ w) && xs.all (fit ws)
  | w :: ws,.tuple xs => decide (xs.length ≤ w) && xs.all (fit ws)
  | _,d => Jmf d
def Nx (n:Nat) (Pv:Nat → List V → Hp → Prop) (i:Nat) (ys:List V) (H:Hp):Prop := ∃ m',m' < n - i ∧ (m' = n - (i + 1) ∧ i + 1 ≤ n ∧ Pv (i + 1) ys H)
theorem nx {n:Nat} {Pv:Nat → List V → Hp → Prop} {i:Nat} {ys:List V} {H:Hp} (hi:i < n) (p:Pv (i + 1) ys H):Nx n Pv i ys H := ⟨n - (i + 1),by omega,rfl,hi,p⟩
section
variable {k:Nat} {caps:List Nat} {σ:St} {g:TG} {tt:TT} {te:TE} {Q:VK} {H:Hp}
end

def But (a:Addr) (H H':Hp):Prop := ∀ b o,b ≠ a → H b = some o → H' b = some o
theorem But.refl (a:Addr) (H:Hp):But a H H := fun _ _ _ h => h
theorem But.trans {a:Addr} {H H1 H2:Hp} (x:But a H H1) (y:But a H1 H2):But a H H2 := fun b o hb h => y b o hb (x b o hb h)
theorem But.of_same {a:Addr} {H H':Hp} (x:Same H H'):But a H H' := fun b o _ h => x b o h
theorem But.new {a:Addr} {H H':Hp} (x:But a H H') {p:Addr} (h:H' p = none) (o:HO):But a H (upd H' p o) := x.trans (But.of_same (Jby h o))
theorem But.upd {a:Addr} {H:Hp} (o:HO):But a H (L2.upd H a o) := fun b u hb h => by rw [Jbg hb]; exact h
theorem Tr.but {a:Addr} {H H':Hp} {v:V} {d:PyData} (t:Tr (· ≠ a) H v d) (x:But a H H'):Tr (· ≠ a) H' v d := t.keep fun b o hb h => x b o hb h
theorem Jbw.but {a:Addr} {H H':Hp} {v:List V} {d:List PyData} (t:Jbw (· ≠ a) H v d) (x:But a H H'):Jbw (· ≠ a) H' v d := t.keep fun b o hb h => x b o hb h
def Well (H:Hp) (a:Addr):Prop := ∃ x y:Int,H a = some (.lst [.int x,.int y])
theorem Well.same {H H':Hp} {a:Addr} (w:Well H a) (e:Same H H'):Well H' a := by obtain ⟨x,y,h⟩ := w; exact ⟨x,y,e _ _ h⟩
theorem Well.ne {H:Hp} {a p:Addr} (w:Well H a) (h:H p = none):p ≠ a := by obtain ⟨x,y,q⟩ := w; exact fun e => by rw [e,q] at h; cases h
theorem But.none {a p:Addr} {H H':Hp} (x:But a H H') (w:Well H' a) (h:H' p = none):H p = none := by
  have hne := w.ne h
  cases q:H p with
  | none => rfl
  | some o => rw [x p o hne q] at h; cases h
end L2
end
section
set_option Elab.async false
set_option maxRecDepth 10000
set_option linter.all false
namespace L2
open PySem PySem.Spec PyProof.Rows
mutual
theorem Tr.mono {N N':Addr → Prop} {H:Hp} (e:∀ b,N b → N' b):∀ {v:V} {d:PyData},Tr N H v d → Tr N' H v d
  | _,_,.non => .non
  | _,_,.bl b => .bl b
  | _,_,.int i => .int i
  | _,_,.str x => .str x
  | _,_,.lst n h t => .lst (e _ n) h (Jbw.mono e t)
  | _,_,.tup n h t => .tup (e _ n) h (Jbw.mono e t)
  | _,_,.dct n h => .dct (e _ n) h
theorem Jbw.mono {N N':Addr → Prop} {H:Hp} (e:∀ b,N b → N' b):∀ {xs:List V} {ds:List PyData},Jbw N H xs ds → Jbw N' H xs ds
  | _,_,.nil => .nil
  | _,_,.cons r t => .cons (Tr.mono e r) (Jbw.mono e t)
end
theorem Well.net {H:Hp} {a p:Addr} {xs:List V} (w:Well H a) (h:H p = some (.tup xs)):p ≠ a := by obtain ⟨x,y,q⟩ := w; exact fun e => by rw [e,q] at h; cases h

section
variable {a:Addr} {H0:Hp} {σ:St} {te t1 t2:TE} {ta:TA} {d:PyData} {ds d1 d2:List PyData} {i j:Int}
theorem Jbw.rep {N:Addr → Prop} {H:Hp} {xs:List V} {ds:List PyData} (h:Jbw N H xs ds):∀ n:Nat,Jbw N H (List.replicate n xs).flatten (List.replicate n ds).flatten
  | 0 => .nil
  | n + 1 => by rw [List.replicate_succ,List.replicate_succ,List.flatten_cons,List.flatten_cons]; exact h.append (h.rep n)
def cutD (xs:List PyData) (lo hi:Option Int):List PyData := (xs.drop (HT.sIx xs.length 0 lo)).take (HT.sIx xs.length xs.length hi - HT.sIx xs.length 0 lo)
theorem Jbw.cut {N:Addr → Prop} {H:Hp} {xs:List V} {ds:List PyData} (h:Jbw N H xs ds) (lo hi:Option Int):Jbw N H (cutV xs lo hi) (cutD ds lo hi) := by
  unfold cutV cutD
  rw [h.length]
  exact (h.drop _).take _
end
end L2
end
section
set_option Elab.async false
set_option maxRecDepth 10000
set_option linter.all false
namespace L2
open PySem PySem.Spec PyProof.Rows
section
variable {X:Cx} {K:PySem.W.Frag}
abbrev rLen (K:PySem.W.Frag):List V → Hp → VK → Prop := fun xs H Q => ∃ p ys,xs = [.ref p] ∧ (SqL K H p ys ∨ SqT K H p ys) ∧ Q (.int ys.length) H
abbrev Ju5 (K:PySem.W.Frag):List V → Hp → VK → Prop := fun xs H Q => ∃ p ys,xs = [.ref p] ∧ ((SqL K H p ys ∧ ∀ l,H l = none → Q (.ref l) (upd H l (.tup ys))) ∨ (SqT K H p ys ∧ Q (.ref p) H))
theorem Jvb {d:Addr} {D:List (PyData × PyData)} {x:Str} {p pos:Pos} {b:Expr} {ta tb:TE} (hT:∀ h,X.K.In h → IntTab X.prog X.w h d D) (ha:PE X (.Name x p) ta) (hb:PE X b tb) (hs:Jmz b)
    (hg:∀ r,letTemporaryGo (.Name x p) (.ref d) r = pure () := by intro _; with_unfolding_all rfl) :
    PE X (.Subscript (.Name x p) b pos) (tOp (fun x y H Q => ∃ (i j:Int),x = .ref d ∧ y = .int i ∧ lookup (.int i) D = some (.int j) ∧ Q (.int j) H) ta tb) := by
  intro pins s σ H Q I h
  refine Subscript_ (binT ha hb I h fun v u s2 x y H2 I2 rx ry q => ?_)
  obtain ⟨i,j,rfl,rfl,hl,q⟩ := q
  cases rx
  obtain ⟨t,rfl⟩ := ry
  refine item_intTab (hT _ I2.kIn) hl (fun v fl => ?_) (hs _ _) hg
  cases fl s2.heap with
  | int _ t' => exact ⟨.int j,H2,I2.tok _,⟨t',rfl⟩,q⟩
theorem Jof (hc:X.calm = true) (hK:X.K = K):Jd1 X (.builtin "max") (fun xs H Q => ∃ (p:Addr) (ns:List Int),xs = [.ref p] ∧ SqL K H p (ns.map V.int) ∧ ns ≠ [] ∧ ∀ m,m ∈ ns → (∀ n ∈ ns,n ≤ m) → Q (.int m) H) := by
  subst hK
  intro pins s σ H xs us Q I r h
  obtain ⟨p,ns,rfl,hq,hne,q⟩ := h
  obtain ⟨u,rfl,rx⟩ := vals1 r
  cases rx
  obtain ⟨its,rv,pl,hz⟩ := I.list hq
  have hlen := rv.length
  rw [List.length_map] at hlen
  have hl := pl.isList
  have hlt:p < s.heap.objs.size := by obtain ⟨o,ho,_⟩ := hl; exact Heap.lt_size ho
  have hval:∀ i v,its.toArray[i]? = some v → ∃ t,v = Value.int (ns.getD i 0) t := fun i v e => by
    rw [List.getElem?_toArray] at e
    have hi:i < ns.length := by rw [hlen]; exact (List.getElem?_eq_some_iff.mp e).1
    obtain ⟨u,e1,ru⟩ := rv.get (i := i) (x := .int ns[i]) (by rw [List.getElem?_map,List.getElem?_eq_getElem hi]; rfl)
    rw [e] at e1; cases e1
    have e2:ns.getD i 0 = ns[i] := by rw [List.getD_eq_getElem?_getD,List.getElem?_eq_getElem hi]; rfl
    rw [e2]
    exact ru
  have hpos:0 < ns.length := List.length_pos_iff.mpr hne
  refine call_max_walk (wpAny_pyIter_list hl ?_)
  refine ⟨s.heap.objs.size,[s.heap.objs.size,p],[s.heap.objs.size],its.toArray.size,fun i v => its.toArray[i]? = some v,_,_,rfl,Walks.list (by simpa using I.ok.hd hc) s.heap.objs.size p (Nat.ne_of_lt hlt) its.toArray,⟨⟨_,Heap.get?_push_size _ rfl,rfl,rfl⟩,hl.push _⟩,?_,?_,CmpOf.ints_gt (fun i => ns.getD i 0) hval,fun v h' tk hP hk => ?_⟩
  · intro b hb
    show b < (s.heap.push _).objs.size
    rw [Heap.size_push]
    rcases List.mem_cons.mp hb with z | hb
    · rw [z]; exact Nat.lt_succ_self _
    · rw [List.mem_singleton.mp hb]; exact Nat.lt_succ_of_lt hlt
  · rw [List.size_toArray,← hlen]; exact hpos
  · obtain ⟨g1,g2⟩ := argBest_gt (fun i => ns.getD i 0) (its.toArray.size - 1)
    obtain ⟨t,rfl⟩ := hval _ _ hP
    rw [List.size_toArray,← hlen] at g1 g2
    have hb:argBest (fun i j => decide (ns.getD i 0 > ns.getD j 0)) (ns.length - 1) < ns.length := by omega
    rw [List.size_toArray,← hlen]
    refine ⟨.int _,H,I.kept (h' := h') (t' := tk) fun b o e => hk b o (fun z => ?_) (Heap.get?_push_of_some _ e),⟨t,rfl⟩,q _ ?_ fun n hn => ?_⟩
    · exact absurd (List.mem_singleton.mp z) (Nat.ne_of_lt (Heap.lt_size e))
    · rw [List.getD_eq_getElem?_getD,List.getElem?_eq_getElem hb]
      exact List.getElem_mem hb
    · obtain ⟨j,hj,rfl⟩ := List.getElem_of_mem hn
      have := g2 j (by omega)
      rw [List.getD_eq_getElem?_getD,List.getElem?_eq_getElem hj] at this
      exact this
end
end L2
end
section
set_option Elab.async false
set_option maxRecDepth 10000
set_option linter.all false
namespace Bc
open PySem PySem.Spec PyProof.Rows L2
def Jto:PyData → Bool
  | .int i => decide (i = 1 ∨ i = 2 ∨ i = 3)
  | _ => false
def Jkq:PyData → Bool
  | .tuple [.int a,.int b] => decide (a < b)
  | _ => false
def Jwg:PyData → PyData → Bool
  | .int n,.tuple ds => decide (n = 1 ∨ n = 2 ∨ n = 3) && decide (n = (ds.length:Int)) && ds.all Jkq
  | _,_ => false
abbrev D3:List (PyData × PyData) := [(.int 1,.int 20),(.int 2,.int 10),(.int 3,.int 6)]
theorem JD1 (i:Int):(lookup (.int i) D3).isSome = decide (i = 1 ∨ i = 2 ∨ i = 3) := by
  have same_i:∀ a b:Int,same (.int a) (.int b) = decide (a = b) := fun a b => by by_cases h:a = b <;> simp [same,h]
  simp only [lookup,same_i]
  by_cases h1:(1:Int) = i
  · subst h1; rfl
  by_cases h2:(2:Int) = i
  · subst h2; rfl
  by_cases h3:(3:Int) = i
  · subst h3; rfl
  rw [decide_eq_false h1,decide_eq_false h2,decide_eq_false h3]
  have h:¬ (i = 1 ∨ i = 2 ∨ i = 3) := by omega
  rw [decide_eq_false h]
  rfl
def Marks (ms:List Int):Prop := ms.Pairwise (· < ·) ∧ 2 ≤ ms.length ∧ ms.length ≤ 60 ∧ ∀ m ∈ ms,-(10 ^ 9) ≤ m ∧ m ≤ 10 ^ 9
def lay1:PyData → Bool
  | .tuple es => PyData.canLayAll0 es && decide (PyData.depthAll es ≤ 60)
  | _ => true
def lay:PyData → Bool
  | .tuple ds => ds.all lay1
  | _ => true
abbrev F3:List Nat := [9,9,9]
def nr (a:Int):Bool := decide (-(10 ^ 9) ≤ a) && decide (a ≤ 10 ^ 9)
def bx:PyData → Bool
  | .tuple [.int a,.int b] => nr a && nr b && decide (a < b)
  | _ => false
def part (d:PyData):Bool := fit [9,9] d && lay1 d
def good (d:PyData):Bool := fit F3 d && lay d
theorem Jvt {a:Int} (h:a.natAbs < 10 ^ 41):Jmf (.int a) = true := decide_eq_true h
theorem Jme {a:Int} (h:nr a = true):Jmf (.int a) = true := by
  simp only [nr,Bool.and_eq_true,decide_eq_true_eq] at h
  exact Jvt (by omega)
theorem JD5 {d:PyData} (h:bx d = true):∃ a b,d = .tuple [.int a,.int b] ∧ nr a = true ∧ nr b = true ∧ a < b := by
  unfold bx at h
  split at h
  · rename_i a b
    simp only [Bool.and_eq_true,decide_eq_true_eq] at h
    exact ⟨a,b,rfl,h.1.1,h.1.2,h.2⟩
  · cases h
theorem JCj {d:PyData} (h:bx d = true):part d = true ∧ fit [9] d = true ∧ d.canLay0 = true ∧ d.depth ≤ 2 ∧ Jkq d = true := by
  obtain ⟨a,b,rfl,h1,h2,h3⟩ := JD5 h
  refine ⟨?_,?_,rfl,by simp [PyData.depth,PyData.depthAll],decide_eq_true h3⟩
  · simp [part,fit,lay1,PyData.canLayAll0,PyData.canLay0,PyData.depthAll,PyData.depth,Jme h1,Jme h2]
  · simp [fit,Jme h1,Jme h2]
theorem Jug {ds:List PyData} {f g:PyData → Bool} (h:ds.all f = true) (k:∀ d,f d = true → g d = true):ds.all g = true := List.all_eq_true.mpr fun x hx => k x (List.all_eq_true.mp h x hx)
theorem JBo (s:String):(Str.ofString s).length = s.length ∧ ∀ c ∈ (Str.ofString s).cps.toList,c < 1114112 := by
  refine ⟨PySem.ofString_length _,fun c hc => ?_⟩
  rw [Str.ofString_eq_toList] at hc
  obtain ⟨x,_,rfl⟩ := List.mem_map.mp (by simpa using hc)
  have := x.valid
  rcases this with h | h
  · have h':x.toNat < 0xd800 := h
    omega
  · have h':x.toNat < 0x110000 := h.2
    omega
theorem str_int {a:Int} (h:nr a = true):Jmf (.str (toString a)) = true ∧ PyData.canLay0 (.str (toString a)) = true := by
  simp only [nr,Bool.and_eq_true,decide_eq_true_eq] at h
  obtain ⟨l,c⟩ := JBo (toString a)
  have q := int_text_length_le10 (a := a) (k := 10) (by decide) (by omega)
  constructor
  · show (decide ((Str.ofString (toString a)).length ≤ 30) && _) = true
    rw [decide_eq_true (by omega),Bool.true_and,List.all_eq_true]
    exact fun x hx => decide_eq_true (Nat.lt_trans (c x hx) (by decide))
  · show (Str.ofString (toString a)).cps.all (· < 0x110000) = true
    rw [← Array.all_toList,List.all_eq_true]
    exact fun x hx => decide_eq_true (c x hx)
def MK (a:Addr) (H:Hp) (y:V):Prop := ∃ q ms,y = .ref q ∧ q ≠ a ∧ H q = some (.lst (ms.map V.int)) ∧ Marks ms
theorem MK.but {a:Addr} {H H':Hp} {y:V} (h:MK a H y) (b:But a H H'):MK a H' y := by
  obtain ⟨q,ms,e,n,hq,m⟩ := h
  exact ⟨q,ms,e,n,b _ _ n hq,m⟩
end Bc
end
section
set_option Elab.async false
set_option maxRecDepth 100000
set_option linter.all false
namespace HT
open PySem PySem.Spec PyProof.Rows
open AutoSeq1 (wpAny_loadPart')
theorem Jj1:fillsNumberSlot (.type "tuple") "mul" = pure false :=
  PySem.fillsNumberSlot_seq (id := "tuple.__mul__") (r := some (.builtin "tuple.__rmul__")) PySem.F.slot_tuple_mul.lookup (by decide +kernel) PySem.F.slot_tuple_rmul.lookup (by decide +kernel)
theorem Jso:seqRepeat? (.type "tuple") = pure (some (.builtin "tuple.__mul__")) := by
  unfold seqRepeat?
  rw [PySem.seqSlot_of (T := "tuple") (name := "__mul__") (id := "tuple.__mul__") PySem.F.slot_tuple_mul.lookup (by decide +kernel),PySem.seqSlot_of (T := "tuple") (name := "__rmul__") (id := "tuple.__rmul__") PySem.F.slot_tuple_rmul.lookup (by decide +kernel)]
  rfl
theorem Jnw (a:Int) (t:Tok) (l:Addr) (items:Array Value) (n:Nat) (dd:Option Addr) (sl:Array (Option Value)) :
    Meets (Builtin.«int.__rmul__» ⟨[.int a t,.ref l],[]⟩) (fun _ R s => s.heap.get? l = some { cls := .type "tuple",dict := dd,data := .seq items n,slots := sl } ∧ R (.ok (.ret Value.notImplemented)) s) :=
  .of_wp fun prog w A R s h => by obtain ⟨hp,g,d,tk,os⟩ := s; obtain ⟨hl,h⟩ := h; wp_walk using wpAny_loadPart' hl; exact ⟨_,rfl,h⟩
theorem Juw (l:Addr) (items:Array Value) (n:Nat) (dd:Option Addr) (sl:Array (Option Value)) (x:Int) (u:Tok) (hc0:¬ (decide (x < -(2 ^ 63)) || decide (x ≥ 2 ^ 63)) = true) (hc1:(items.isEmpty || x == 1) = true) :
    Meets (Builtin.«tuple.__mul__» ⟨[.ref l,.int x u],[]⟩) (fun _ R s => s.heap.get? l = some { cls := .type "tuple",dict := dd,data := .seq items n,slots := sl } ∧ R (.ok (.ret (Value.ref l))) { s with heap := s.heap,toks := s.toks }) :=
  .of_wp fun prog w A R s h => by obtain ⟨hp,g,d,tk,os⟩ := s; obtain ⟨hl,h⟩ := h; have f1 := AutoSeq1.idx_int; wp_walk; refine wpAny_ite_false (decide_eq_false hc0) ?_; wp_walk using wpAny_loadPart' hl; exact ⟨_,rfl,h⟩
theorem Juv (l:Addr) (items:Array Value) (n:Nat) (dd:Option Addr) (sl:Array (Option Value)) (x:Int) (u:Tok) (hc0:¬ (decide (x < -(2 ^ 63)) || decide (x ≥ 2 ^ 63)) = true) (hc1:¬ (items.isEmpty || x == 1) = true)
    (hc2:¬ (decide (x ≤ 0) || items.isEmpty) = true) (hc3:¬ (items.size:Int) * x > (2 ^ 63 - 1) / 8) (hc4:¬ Builtin.Tuple.tupleTooMany ((items.size:Int) * x) = true) (hsz:(List.foldl (fun x1 x2 => x1 ++ x2) #[] (List.replicate x.toNat items)).size ≤ sizeLine) :
    Meets (Builtin.«tuple.__mul__» ⟨[.ref l,.int x u],[]⟩) (fun _ R s => s.heap.get? l = some { cls := .type "tuple",dict := dd,data := .seq items n,slots := sl } ∧ R (.ok (.ret (Value.ref s.heap.objs.size))) { s with heap := s.heap.push { cls := Value.type "tuple",data := Data.seq (List.foldl (fun x1 x2 => x1 ++ x2) #[] (List.replicate x.toNat items)) },toks := s.toks }) :=
  .of_wp fun prog w A R s h => by obtain ⟨hp,g,d,tk,os⟩ := s; obtain ⟨hl,h⟩ := h; have f1 := AutoSeq1.idx_int; wp_walk; refine wpAny_ite_false (decide_eq_false hc0) ?_; wp_walk using wpAny_loadPart' hl; refine wpAny_ite_false (decide_eq_false hc3) ?_; wp_walk; exact ⟨_,rfl,h⟩
section
variable {prog:Program} {w:World} {A:Around} {E:Value → Shared → Prop} {s:Shared}
theorem Jy4 {t:Addr} {its:List Value} {k:Int} {u:Tok} {Q:Value → Shared → Prop} (ht:IsTup s.heap t its.toArray) (hne:its ≠ []) (h1:1 ≤ k) (h2:k < 2 ^ 60) (hz:its.length * k.toNat ≤ sizeLine)
    (q1:k = 1 → Q (.ref t) s) (q2:k ≠ 1 → Q (.ref s.heap.objs.size) { s with heap := s.heap.push { cls := .type "tuple",data := .seq (List.replicate k.toNat its).flatten.toArray } }) :
    wpAny (model prog w) A (binaryOp .Mult (.ref t) (.int k u)) Q E s := by
  obtain ⟨⟨c1,d1,x1,sl1⟩,ho,hc,n,hd⟩ := id ht
  simp only at hc hd
  subst hc hd
  have c0:¬ (decide (k < -(2 ^ 63)) || decide (k ≥ 2 ^ 63)) = true := by
    rw [decide_eq_false (by omega),decide_eq_false (by omega)]; exact Bool.false_ne_true
  have ne:its.toArray.isEmpty = false := by cases its with | nil => exact absurd rfl hne | cons _ _ => rfl
  have hnew:List.foldl (fun x1 x2 => x1 ++ x2) #[] (List.replicate k.toNat its.toArray) = (List.replicate k.toNat its).flatten.toArray := by
    have := L2.foldl_rep its k.toNat []
    rw [List.nil_append] at this
    exact this
  refine wpAny_binaryOp_repeat_ref (T := "tuple") (U := "int") (by decide) ⟨_,ho,rfl⟩ (fun s' => typeIs_int s' k u) Jj1 PySem.F.fills_int_mul PySem.F.slot_int_rmul Jso PySem.F.slot_int_index.lookup
    (call_meets PySem.F.slot_int_rmul (typeIs_int s k u) PySem.F.entry_int_rmul (PySem.F.args_int_rmul_2 _ _) (Jnw k u t its.toArray n d1 sl1) ⟨ho,rfl,⟨_,ho,rfl⟩,?_⟩)
  by_cases k1:k = 1
  · exact call_meets PySem.F.slot_tuple_mul ⟨_,ho,rfl⟩ PySem.F.entry_tuple_mul (PySem.F.args_tuple_mul_2 _ _) (Juw t its.toArray n d1 sl1 k u c0 (by rw [k1]; simp)) ⟨ho,q1 k1⟩
  · have e:((its.toArray.size:Nat):Int) * k = ((its.length * k.toNat:Nat):Int) := by
      rw [List.size_toArray,Int.natCast_mul,Int.toNat_of_nonneg (by omega)]
    have hs:(sizeLine:Nat) = 16777216 := by decide
    refine call_meets PySem.F.slot_tuple_mul ⟨_,ho,rfl⟩ PySem.F.entry_tuple_mul (PySem.F.args_tuple_mul_2 _ _) (Juv t its.toArray n d1 sl1 k u c0 ?_ ?_ ?_ ?_ ?_) ⟨ho,?_⟩
    · rw [ne]; simp [k1]
    · rw [ne,decide_eq_false (by omega)]; exact Bool.false_ne_true
    · rw [e]; omega
    · rw [e]
      unfold Builtin.Tuple.tupleTooMany
      rw [decide_eq_true_eq]
      omega
    · rw [hnew,List.size_toArray,L2.len_rep,Nat.mul_comm]; exact hz
    · rw [hnew]; exact q2 k1
end
end HT
namespace L2
open PySem PySem.Spec PyProof.Rows
abbrev JAr:R2 := fun x y H Q => ∃ (a:Addr) (k:Int) (xs:List V),x = .ref a ∧ y = .int k ∧ H a = some (.tup xs) ∧ xs ≠ [] ∧ 1 ≤ k ∧ k < 2 ^ 60 ∧ xs.length * k.toNat ≤ sizeLine ∧ ∀ p H',Same H H' → H' p = some (.tup (List.replicate k.toNat xs).flatten) → Q (.ref p) H'
section
variable {X:Cx}
theorem Jyw:OpR X (binaryOp .Mult) JAr := by
  intro pins s σ H x y v u Q I rx ry h
  obtain ⟨a,k,xs,rfl,rfl,ha,hne,k1,k2,hz,q⟩ := h
  cases rx
  obtain ⟨t,rfl⟩ := ry
  obtain ⟨its,r1,p1,_⟩ := I.tuple (SqT.of ha)
  refine HT.Jy4 p1 (fun z => hne (r1.Jma.mp z)) k1 k2 (by rw [← r1.length]; exact hz) (fun e => ?_) (fun e => ?_)
  · refine ⟨.ref a,H,I,rfl,q a H (Same.refl H) ?_⟩
    rw [e]
    simpa using ha
  · refine ⟨.ref s.heap.objs.size,_,I.laid (t' := s.toks) (o := .tup (List.replicate k.toNat xs).flatten) (fun b ob q => Heap.get?_push_of_some _ q) (Nat.le_refl _) ?_,rfl,q _ _ (Jby (I.hok.fresh (Nat.le_refl _)) _) Jbj⟩
    exact ⟨by rw [len_rep,Nat.mul_comm]; exact hz,_,r1.rep k.toNat,IsTup.new _ _⟩
end
section
variable {X:Cx}
end
section
variable {a:Addr} {H0:Hp} {σ:St} {te t1 t2:TE} {ta:TA} {d:PyData} {ds d1 d2:List PyData} {i j:Int} {K:PySem.W.Frag}
end
def Nq (a q:Addr):Addr → Prop := fun b => b ≠ a ∧ b ≠ q
structure Wq (a q:Addr) (bs:List V) (H:Hp):Prop where
  w:Well H a
  at_:H q = some (.lst bs)
  ne:q ≠ a
section
variable {a q p:Addr} {bs:List V} {H H':Hp}
theorem Wq.same (x:Wq a q bs H) (s:Same H H'):Wq a q bs H' := ⟨x.w.same s,s _ _ x.at_,x.ne⟩
theorem Wq.but (x:Wq a q bs H) (b:But a H H') (w:Well H' a):Wq a q bs H' := ⟨w,b _ _ x.ne x.at_,x.ne⟩
theorem Wq.new (x:Wq a q bs H) (h:H p = none):Nq a q p := ⟨x.w.ne h,fun e => by rw [e,x.at_] at h; cases h⟩
theorem Wq.tup {xs:List V} (x:Wq a q bs H) (h:H p = some (.tup xs)):Nq a q p := ⟨x.w.net h,fun e => by rw [e,x.at_] at h; cases h⟩
theorem Tr.grow {v:V} {d:PyData} {o:HO} (t:Tr (Nq a q) H v d):Tr (Nq a q) (upd H q o) v d := t.keep fun b o hb h => by rw [Jbg hb.2]; exact h
theorem Jbw.grow {v:List V} {d:List PyData} {o:HO} (t:Jbw (Nq a q) H v d):Jbw (Nq a q) (upd H q o) v d := t.keep fun b o hb h => by rw [Jbg hb.2]; exact h
abbrev JAt:R2 := fun x y H Q => ∃ (a b:Addr) (xs ys:List V),x = .ref a ∧ y = .ref b ∧ H a = some (.tup xs) ∧ H b = some (.tup ys) ∧ xs.length + ys.length ≤ sizeLine ∧ ∀ p H',Same H H' → H' p = some (.tup (xs ++ ys)) → Q (.ref p) H'
abbrev rSlG:V → Option Int → Option Int → Hp → VK → Prop := fun x lo hi H Q => ∃ (a:Addr) (xs:List V),x = .ref a ∧ H a = some (.tup xs) ∧ ∀ p H',Same H H' → H' p = some (.tup (cutV xs lo hi)) → Q (.ref p) H'
end
end L2
end
section
set_option Elab.async false
set_option maxRecDepth 10000
set_option linter.all false
namespace L2
open PySem PySem.Spec PyProof.Rows
end L2
namespace Bc
open PySem PySem.Spec PyProof.Rows L2
def Js8:PyData → Nat
  | .int 1 => 20
  | .int 2 => 10
  | .int 3 => 6
  | _ => 0
def JB5:PyData → Bool
  | .tuple [w,.list bs] => Jto w && decide (bs.length ≤ Js8 w) && bs.all (Jwg w)
  | _ => false
def boxD (n:Nat):PyData → Bool
  | .tuple es => decide (es.length = n) && es.all bx
  | _ => false
theorem Jz3 {n:Nat} {d:PyData} (h:boxD n d = true):∃ es,d = .tuple es ∧ es.length = n ∧ es.all bx = true := by
  cases d with
  | tuple es => simp only [boxD,Bool.and_eq_true,decide_eq_true_eq] at h; exact ⟨es,rfl,h.1,h.2⟩
  | _ => cases h
def MK2 (a q:Addr) (H:Hp) (y:V):Prop := ∃ r ms,y = .ref r ∧ Nq a q r ∧ H r = some (.lst (ms.map V.int)) ∧ Marks ms
theorem MK2.but {a q:Addr} {H H':Hp} {y:V} (h:MK2 a q H y) (b:But a H H'):MK2 a q H' y := by
  obtain ⟨r,ms,e,n,hq,m⟩ := h
  exact ⟨r,ms,e,n,b _ _ n.1 hq,m⟩
theorem MK2.grow {a q:Addr} {H:Hp} {y:V} {o:HO} (h:MK2 a q H y):MK2 a q (upd H q o) y := by
  obtain ⟨r,ms,e,n,hq,m⟩ := h
  exact ⟨r,ms,e,n,by rw [Jbg n.2]; exact hq,m⟩
end Bc
end
section
set_option Elab.async false
set_option maxRecDepth 10000
set_option linter.all false
namespace L2
open PySem PySem.Spec PyProof.Rows
theorem Inv.Joq {X:Cx} {pins:List (Addr × Obj)} {σ:St} {H:Hp} {s:Shared} {h':Heap} {t':Nat} {fp:List Addr} (I:Inv X pins σ H s) (k:∀ b o,b ∉ fp → s.heap.get? b = some o → h'.get? b = some o) (hf:∀ b ∈ fp,FpOk X pins H b) :
    Inv X pins σ H { s with heap := h',toks := t' } := by
  have nit:∀ b u,H b = some u → b ∉ fp := fun b u e z => by
    have := (hf b z).1
    rw [this] at e
    cases e
  refine I.step (g' := s.gens) (d' := s.drawn) (ch := fp) (fun b hb => ?_) (fun b o _ _ hc e _ => k b o hc e) (fun b o _ _ hc e _ => ⟨o.slots,k b o hc e⟩) (fun _ _ _ _ n => n) (fun b o hc e => ⟨o,k b o hc e⟩) (fun _ _ e => e) (fun _ _ _ e => e)
    (fun b ps e => ⟨#[],by rw [e]; simp⟩) (fun m hm => ?_) (fun b u e => ?_) I.bare id
  · obtain ⟨_,a2,_,a4,a5,a6⟩ := hf b hb
    exact ⟨a4,a2,a5,a6⟩
  · obtain ⟨o,es,ep,ho,r⟩ := hm
    exact ⟨o,es,ep,k _ o (fun z => (hf _ z).2.1 rfl) ho,r⟩
  · refine (I.hok b u e).stay (fun c v hc q => k c v ?_ q) (fun _ q => q) fun _ _ q => q
    rcases hc with z | z
    · rw [z]; exact nit b u e
    · exact nit c _ z
theorem Inv.JBe {X:Cx} {pins:List (Addr × Obj)} {σ:St} {H:Hp} {s:Shared} {h':Heap} {t':Nat} {fp:List Addr} {x y:V} {u v:Value} (I:Inv X pins σ H s) (rx:RelV x u) (ry:RelV y v)
    (ht:h'.get? s.heap.objs.size = some { cls := .type "tuple",data := .seq #[u,v] }) (k:∀ b o,b ∉ fp → s.heap.get? b = some o → h'.get? b = some o) (hf:∀ b ∈ fp,FpOk X pins H b) (hlt:∀ b ∈ fp,b < s.heap.objs.size) :
    Inv X pins σ (upd H s.heap.objs.size (.tup [x,y])) { s with heap := h',toks := t' } := by
  have I1 := I.laid (h' := s.heap.push { cls := .type "tuple",data := .seq #[u,v] }) (t' := s.toks) (a := s.heap.objs.size) (o := .tup [x,y]) (fun b ob q => Heap.get?_push_of_some _ q) (Nat.le_refl _)
    ⟨(by decide:2 ≤ sizeLine),[u,v],.cons rx (.cons ry .nil),IsTup.new _ _⟩
  refine Inv.Joq (s := { s with heap := s.heap.push { cls := .type "tuple",data := .seq #[u,v] } }) (h' := h') (t' := t') (fp := fp) I1 (fun b o hb e => ?_) (fun b hb => ?_)
  · rcases Heap.get?_push_cases e with ⟨z1,z2⟩ | z
    · rw [z1,z2]
      exact ht
    · exact k b o hb z
  · obtain ⟨a1,a2,a3,a4,a5,a6⟩ := hf b hb
    exact ⟨by rw [Jbg (Nat.ne_of_lt (hlt b hb))]; exact a1,a2,a3,a4,a5,a6⟩
def Ite (K:PySem.W.Frag) (a:Addr):It :=
  ⟨fun i H => ∃ xs x,SqL K H a xs ∧ xs[i]? = some x,fun i H v H' => ∃ p x,H p = none ∧ v = .ref p ∧ H' = upd H p (.tup [.int i,x]) ∧ ∀ xs,SqL K H a xs → xs[i]? = some x,fun i H => ∃ xs,SqL K H a xs ∧ xs.length ≤ i⟩
theorem Jr4 {P:Program} {w:World} {K:PySem.W.Frag} {elts:List Expr} {x1:Nat} {pos:Pos} (a e it:Addr) (hne:e ≠ it) :
    Turn P w K (.Tuple elts x1 pos) (Ite K a) [e,it] e (fun i h => (∃ old,IsEnum h e it (i:Nat) old) ∧ h.IsListIter it a i) where
  mem := by simp
  obj := fun i h st b hb => by
    obtain ⟨⟨old,he⟩,o,e1,c,d⟩ := st
    simp only [List.mem_cons,List.not_mem_nil,or_false] at hb
    rcases hb with rfl | rfl
    · exact ⟨_,he,fun v z => by cases z⟩
    · exact ⟨o,e1,fun v z => by rw [d] at z; cases z⟩
  keep := fun i h h' st k => by
    obtain ⟨⟨old,he⟩,hit⟩ := st
    exact ⟨⟨old,k e (by simp) _ he⟩,hit.at fun o q => k it (by simp) o q⟩
  item := by
    intro X hP hw hK hc i pins s σ H E I hf st hg
    subst hP hw hK
    obtain ⟨xs,x,hq,hx⟩ := hg
    obtain ⟨its,rv,p,hz⟩ := I.list hq
    obtain ⟨u,hu,ru⟩ := rv.get hx
    obtain ⟨⟨old,he⟩,hit⟩ := st
    have lt1:e < s.heap.objs.size := Heap.lt_size he
    have lt2:it < s.heap.objs.size := by obtain ⟨o,q,_⟩ := hit; exact Heap.lt_size q
    refine wpAny_pyNext_enum_item he hit p.isList (x := u) (by simpa using hu) hne fun h' eo it' tp sz k => ⟨_,rfl,?_⟩
    refine wpAny_letOwnedTupleGo_enum eo fun h2 e2 sb => ?_
    have ne2:s.heap.objs.size ≠ e := Nat.ne_of_gt lt1
    have J := I.JBe (h' := h2) (t' := s.toks + 1) (fp := [e,it]) (x := .int i) (y := x) (u := .int i s.toks) (v := u) ⟨_,rfl⟩ ru (sb.extBut _ _ ne2 tp) (fun b o hb q => by
      simp only [List.mem_cons,List.not_mem_nil,or_false,not_or] at hb
      exact sb.extBut _ _ hb.1 (k b o hb.1 hb.2 q)) hf (fun b hb => by
      simp only [List.mem_cons,List.not_mem_nil,or_false] at hb
      rcases hb with rfl | rfl
      · exact lt1
      · exact lt2)
    refine ⟨.ref s.heap.objs.size,_,J,rfl,⟨_,x,I.hok.fresh (Nat.le_refl _),rfl,rfl,fun ys hy => by rw [I.Jqo hy hq]; exact hx⟩,⟨⟨u,e2⟩,it'.at fun o q => sb.extBut _ _ (Ne.symm hne) q⟩,fun b hb => ?_⟩
    rw [Jbg]
    · exact (hf b hb).1
    · simp only [List.mem_cons,List.not_mem_nil,or_false] at hb
      rcases hb with rfl | rfl
      · exact Nat.ne_of_lt lt1
      · exact Nat.ne_of_lt lt2
  done := by
    intro X hP hw hK hc i pins s σ H E I hf st hg
    subst hP hw hK
    obtain ⟨xs,hq,hx⟩ := hg
    obtain ⟨its,rv,p,hz⟩ := I.list hq
    obtain ⟨⟨old,he⟩,hit⟩ := st
    have hl := rv.length
    exact wpAny_pyNext_enum_end (I.ok.hd hc) he hit p.isList (by simp; omega) fun h' eb => ⟨rfl,I.Joq (t' := s.toks) (fp := [e,it]) (fun b o hb q => eb b o (fun z => hb (by simp [z])) q) hf⟩
  self := fun _ _ _ _ _ st h => by
    obtain ⟨⟨old,he⟩,_⟩ := st
    exact wpAny_pyIter_enum he h
abbrev JD3 (K:PySem.W.Frag) (ta:TA):TI := fun σ H R => ta σ H fun vs H1 => ∃ a,vs = [.ref a] ∧ (∃ xs,SqL K H1 a xs) ∧ R (Ite K a) H1
section
variable {X:Cx}
theorem Jyq {a:Expr} {ta:TA} {p pos:Pos} {elts:List Expr} {x1:Nat} {tpos:Pos} (hg:Gl X "enumerate") (hm:X.mg "enumerate" = none) (ha:PA X [a] ta) (hs:starEach [a] X.env = [(false,eval a X.env)] := by rfl) :
    PI X (.Tuple elts x1 tpos) (.Call (.Name "enumerate" p) [a] [] pos) (JD3 X.K ta) := by
  intro pins s σ H R I h
  refine Call_ (Jli I hg hm (by decide +kernel:bootBuiltins "enumerate" = some (.type "enumerate")) (PyProof.Rows.callWith_type1 (thn (ha pos pins s σ H _ I h) fun us s1 ⟨vs,H1,I1,r1,q1⟩ => ?_) hs rfl))
  obtain ⟨l,e,⟨xs,hq⟩,q⟩ := q1
  subst e
  cases r1 with
  | cons r rr =>
    cases rr
    cases r
    obtain ⟨its,rv,pl,hz⟩ := I1.list hq
    refine call_enumerate_list pl.isList fun h' e1 i1 sz k => ?_
    refine wpAny_pyIter_enum e1 ?_
    refine ⟨s1.heap.objs.size + 1,[s1.heap.objs.size + 1,s1.heap.objs.size],_,_,H1,rfl,I1.kept (t' := s1.toks) k,Jr4 l _ _ (Nat.succ_ne_self _),⟨⟨_,e1⟩,i1⟩,fun b hb => ?_,q⟩
    have hb':s1.heap.objs.size ≤ b := by
      simp only [List.mem_cons,List.not_mem_nil,or_false] at hb
      rcases hb with rfl | rfl <;> omega
    exact I1.fpOk hb' (I1.hok.fresh hb')
end
end L2
end
section
set_option Elab.async false
set_option maxRecDepth 100000
set_option linter.all false
namespace HT
open PySem PySem.Spec PyProof.Rows
section
variable {prog:Program} {w:World} {A:Around} {E:Value → Shared → Prop} {s:Shared}
theorem nextT {it t:Addr} {i:Nat} {ws:Array Value} {x:Value} {Q:Value → Shared → Prop} (c:s.heap.IsTupleIter it t i) (ct:s.heap.IsTuple t ws) (ex:ws[i]? = some x)
    (q:∀ h',h'.IsTupleIter it t (i + 1) → Heap.SameBut it s.heap h' → Q x { s with heap := h' }):wpAny (model prog w) A (Builtin.SmallTypes.nextOf (.ref it)) Q E s := by
  obtain ⟨o,e0,e1,e2⟩ := id c
  obtain ⟨ot,f0,_,nt,f1⟩ := ct
  unfold Builtin.SmallTypes.nextOf
  refine wpAny_bind (wpAny_callSpecial?_slot (name := Str.ofString "__next__") c.typeIs PySem.F.slot_tuple_iterator_next (wpAny_call_entry PySem.F.slot_tuple_iterator_next c.typeIs PySem.F.entry_tuple_iterator_next ?_ (PySem.F.args_tuple_iterator_next_1 _)))
  refine (show wpAny _ _ (field (.ref it) 0 >>= _) _ _ s from wpAny_bind (wpAny_field e0 e2 (x := .ref t) rfl ?_))
  show wpAny _ _ (ite ((Value.ref t == Value.none) = true) _ _) _ _ s
  rw [if_neg (by exact Bool.false_ne_true)]
  refine (show wpAny _ _ (field (.ref it) 1 >>= _) _ _ s from wpAny_bind (wpAny_field e0 e2 (x := .int i 0) rfl ?_))
  refine (show wpAny _ _ (seqItems? (.ref t) >>= _) _ _ s from wpAny_bind (wpAny_seqItems f0 f1 ?_))
  simp only [ex,Int.toNat_natCast]
  refine wpAny_bind (wpAny_setField e0 e2 (by simp) (wpAny_pure ⟨x,rfl,wpAny_pure (q _ ⟨_,Heap.get?_update_self _ e0 (Obj.isFreed_of_fields (Obj.data_mapFields e2 _)),(Obj.cls_mapFields ..).trans e1,?_⟩ (Heap.SameBut.update ..))⟩))
  rw [Obj.data_mapFields e2]
  simp [rawInt]
theorem JBp {it t:Addr} {i:Nat} {ws:Array Value} {Q:Value → Shared → Prop} (ha:A.handled = none) (c:s.heap.IsTupleIter it t i) (ct:s.heap.IsTuple t ws) (ex:ws[i]? = none)
    (q:∀ h' e,Heap.ExtBut it s.heap h' → (∃ o,h'.get? e = some o ∧ o.cls = .type "StopIteration") → E (.ref e) { s with heap := h' }):wpAny (model prog w) A (Builtin.SmallTypes.nextOf (.ref it)) Q E s := by
  obtain ⟨o,e0,e1,e2⟩ := id c
  obtain ⟨ot,f0,_,nt,f1⟩ := ct
  unfold Builtin.SmallTypes.nextOf
  refine wpAny_bind (wpAny_callSpecial?_slot (name := Str.ofString "__next__") c.typeIs PySem.F.slot_tuple_iterator_next (wpAny_call_entry PySem.F.slot_tuple_iterator_next c.typeIs PySem.F.entry_tuple_iterator_next ?_ (PySem.F.args_tuple_iterator_next_1 _)))
  refine (show wpAny _ _ (field (.ref it) 0 >>= _) _ _ s from wpAny_bind (wpAny_field e0 e2 (x := .ref t) rfl ?_))
  show wpAny _ _ (ite ((Value.ref t == Value.none) = true) _ _) _ _ s
  rw [if_neg (by exact Bool.false_ne_true)]
  refine (show wpAny _ _ (field (.ref it) 1 >>= _) _ _ s from wpAny_bind (wpAny_field e0 e2 (x := .int i 0) rfl ?_))
  refine (show wpAny _ _ (seqItems? (.ref t) >>= _) _ _ s from wpAny_bind (wpAny_seqItems f0 f1 ?_))
  simp only [ex,Int.toNat_natCast]
  refine wpAny_bind (wpAny_rule (wpAny_bind (wpAny_setField e0 e2 (by simp) (show wpAny _ _ (newExc (.type "StopIteration") [] >>= _) _ _ _ from wpAny_bind ?_))))
  simp only [newTuple,newExc]
  refine wpAny_bind (wpAny_newObj_type (wpAny_bind (m := firstArgMember _ _) (wpAny_of_eq (a := Value.none) (by first | rfl | (simp only [firstArgMember]; rfl)) (wpAny_newObj_type ?_ (by size_fits)))) (by size_fits))
  simp only [raiseNew]
  refine wpAny_bind (wpAny_handled ?_)
  rw [show A.in1.handled = none from ha]
  exact wpAny_bind (wpAny_pure (wpAny_throw (q _ _ (((Heap.SameBut.update ..).extBut.push _).push _) ⟨_,Heap.get?_push_size _ rfl,rfl⟩)))
theorem JCh (ha:A.handled = none) (it t:Addr) (ne:t ≠ it) (ws:Array Value):Draws prog w A it [it,t] ws.size (fun i v => ws[i]? = some v) (fun i h => h.IsTupleIter it t i ∧ h.IsTuple t ws) where
  live := fun _ _ st => let ⟨o,e,_⟩ := st.1; ⟨o,e⟩
  frame := fun _ _ _ st k => ⟨st.1.at fun o e => k it (by simp) o e,st.2.at fun o e => k t (by simp) o e⟩
  item := fun i s Q E hi st q => nextT st.1 st.2 (x := ws[i]) (by simp [hi]) fun h' c' sb => q _ h' s.toks (by simp [hi]) ⟨c',st.2.extBut sb.extBut ne⟩ sb
  done := fun s Q E st q => JBp ha st.1 st.2 (by simp) q
structure Apart (z TI TO i1 i2:Addr) (fp1 fp2:List Addr):Prop where
  a1:TI ≠ z
  a2:TO ≠ z
  a3:TI ≠ TO
  b1:∀ b ∈ fp1,b ≠ z ∧ b ≠ TO ∧ b ≠ i2
  b2:∀ b ∈ fp2,b ≠ z ∧ b ≠ TO ∧ b ≠ i1
  c1:i1 ≠ z ∧ i1 ≠ TO ∧ i1 ≠ TI
  c2:i2 ≠ z ∧ i2 ≠ TO ∧ i2 ≠ TI
  c3:i1 ≠ i2
section
variable {z TI TO i1 i2:Addr} {fp1 fp2:List Addr} {n1 n2 k:Nat} {P1 P2:Nat → Value → Prop} {S1 S2:Nat → Heap → Prop} {a b:Value}
theorem zipI {Q:Value → Shared → Prop} (D1:Draws prog w A i1 fp1 n1 P1 S1) (D2:Draws prog w A i2 fp2 n2 P2 S2) (D:Apart z TI TO i1 i2 fp1 fp2) (hZ:IsZip s.heap z TI TO .none) (hI:IsPair s.heap TI (.ref i1) (.ref i2)) (hO:IsPair s.heap TO a b)
    (s1:S1 k s.heap) (s2:S2 k s.heap) (k1:k < n1) (k2:k < n2)
    (q:∀ x y h' tk,P1 k x → P2 k y → IsZip h' z TI TO (rawInt s.heap.objs.size) → IsPair h' TO x y → S1 (k + 1) h' → S2 (k + 1) h' → IsPair h' s.heap.objs.size x y → h'.objs.size = s.heap.objs.size + 1 →
      (∀ c o,c ≠ z → c ≠ TO → c ≠ i1 → c ≠ i2 → s.heap.get? c = some o → h'.get? c = some o) → Q (.ref s.heap.objs.size) { s with heap := h',toks := tk }) :
    wpAny (model prog w) A (Builtin.«zip.__next__» ⟨[.ref z],[]⟩) (fun fin s' => ∃ v,fin = .done (.ret v) ∧ Q v s') E s := by
  obtain ⟨hp,g,d,tk0,os⟩ := s
  refine (show wpAny _ _ (field (.ref z) 2 >>= _) _ _ _ from wpAny_bind (wpAny_field hZ rfl (x := .bool false) rfl ?_))
  refine (show wpAny _ _ (field (.ref z) 3 >>= _) _ _ _ from wpAny_bind (wpAny_field hZ rfl (x := .ref TI) rfl (wpAny_bind (wpAny_seqItems hI rfl ?_))))
  refine (show wpAny _ _ (Builtin.SmallTypes.ownedTupleIsFree (.ref z) >>= _) _ _ _ from wpAny_bind ?_)
  unfold Builtin.SmallTypes.ownedTupleIsFree
  refine wpAny_bind (wpAny_field hZ rfl (x := .none) rfl (wpAny_pure ?_))
  simp only [if_true]
  refine wpAny_bind (wpAny_rule (wpAny_bind (wpAny_field hZ rfl (x := .ref TO) rfl (wpAny_bind (wpAny_setField_rec hZ (by simp) fun g1 z1 m1 => ?_)))))
  replace z1:IsZip g1 z TI TO .ellipsis := z1
  replace m1:Heap.SameBut z hp g1 := m1
  refine wpAny_bind ?_
  simp only [List.zipIdx_cons,List.zipIdx_nil,List.forIn_cons,List.forIn_nil]
  have t1:S1 k g1 := D1.frame _ _ _ s1 fun c hc o e => m1.extBut _ _ (D.b1 c hc).1 e
  have u1:S2 k g1 := D2.frame _ _ _ s2 fun c hc o e => m1.extBut _ _ (D.b2 c hc).1 e
  refine wpAny_bind (wpAny_bind (wpAny_onRaise (show wpAny _ _ (Builtin.SmallTypes.nextOf (.ref i1) >>= _) _ _ _ from wpAny_bind (D1.item k ⟨g1,g,d,tk0,os⟩ _ _ k1 t1 fun x g2 tk1 px t2 m2 => wpAny_pure ?_))))
  replace m2:Heap.SameBut i1 g1 g2 := m2
  have o2:IsPair g2 TO a b := m2.extBut _ _ (Ne.symm D.c1.2.1) (m1.extBut _ _ D.a2 hO)
  refine wpAny_bind (wpAny_seqItems o2 rfl (wpAny_bind (wpAny_updateSeq_pair o2 fun g3 o3 m3 => ?_)))
  replace o3:IsPair g3 TO x b := o3
  replace m3:Heap.SameBut TO g2 g3 := m3
  have u3:S2 k g3 := D2.frame _ _ _ u1 fun c hc o e => m3.extBut _ _ (D.b2 c hc).2.1 (m2.extBut _ _ (D.b2 c hc).2.2 e)
  refine wpAny_bind (wpAny_letGo (wpAny_pure ?_))
  refine wpAny_bind (wpAny_bind (wpAny_onRaise (show wpAny _ _ (Builtin.SmallTypes.nextOf (.ref i2) >>= _) _ _ _ from wpAny_bind (D2.item k ⟨g3,g,d,tk1,os⟩ _ _ k2 u3 fun y g4 tk2 py u4 m4 => wpAny_pure ?_))))
  replace m4:Heap.SameBut i2 g3 g4 := m4
  have o4:IsPair g4 TO x b := m4.extBut _ _ (Ne.symm D.c2.2.1) o3
  refine wpAny_bind (wpAny_seqItems o4 rfl (wpAny_bind (wpAny_updateSeq_pair o4 fun g5 o5 m5 => ?_)))
  replace o5:IsPair g5 TO x y := o5
  replace m5:Heap.SameBut TO g4 g5 := m5
  refine wpAny_bind (wpAny_letGo (wpAny_pure (wpAny_pure (wpAny_bind (wpAny_seqItems o5 rfl (wpAny_bind (wpAny_newTuple ?_)))))))
  have sz:g5.objs.size = hp.objs.size := by rw [m5.1,m4.1,m3.1,m2.1,m1.1]
  have z5:IsZip g5 z TI TO .ellipsis := m5.extBut _ _ (Ne.symm D.a2) (m4.extBut _ _ (Ne.symm D.c2.1) (m3.extBut _ _ (Ne.symm D.a2) (m2.extBut _ _ (Ne.symm D.c1.1) z1)))
  have kk:∀ c o,c ≠ z → c ≠ TO → c ≠ i1 → c ≠ i2 → hp.get? c = some o → g5.get? c = some o := fun c o n1 n2 n3 n4 e => m5.extBut _ _ n2 (m4.extBut _ _ n4 (m3.extBut _ _ n2 (m2.extBut _ _ n3 (m1.extBut _ _ n1 e))))
  have lz:z < g5.objs.size := Heap.lt_size z5
  refine (show wpAny _ _ (Builtin.SmallTypes.ownedTupleHandOut (.ref z) (.ref g5.objs.size) >>= _) _ _ _ from wpAny_bind ?_)
  unfold Builtin.SmallTypes.ownedTupleHandOut
  have z6:IsZip (g5.push { cls := .type "tuple",data := .seq #[x,y] }) z TI TO .ellipsis := Heap.get?_push_of_some _ z5
  refine wpAny_bind (wpAny_setField_rec z6 (by simp) fun g7 z7 m7 => ?_)
  replace z7:IsZip g7 z TI TO (rawInt g5.objs.size) := z7
  refine wpAny_setField_rec z7 (by simp) fun g8 z8 m8 => ?_
  replace z8:IsZip g8 z TI TO (rawInt g5.objs.size) := z8
  have up:∀ c o,c ≠ z → g5.get? c = some o → g8.get? c = some o := fun c o n e => m8.extBut _ _ n (m7.extBut _ _ n (Heap.get?_push_of_some _ e))
  have p8:IsPair g8 g5.objs.size x y := m8.extBut _ _ (Nat.ne_of_gt lz) (m7.extBut _ _ (Nat.ne_of_gt lz) (Heap.get?_push_size _ rfl))
  have w8:g8.objs.size = g5.objs.size + 1 := by rw [m8.1,m7.1,Heap.size_push]
  rw [sz] at z8 p8 w8
  refine wpAny_pure ⟨_,rfl,?_⟩
  show Q (.ref g5.objs.size) _
  rw [sz]
  refine q x y g8 tk2 px py z8 (up _ _ D.a2 o5) ?_ ?_ p8 w8 fun c o n1 n2 n3 n4 e => up c o n1 (kk c o n1 n2 n3 n4 e)
  · exact D1.frame _ _ _ t2 fun c hc o e => up _ _ (D.b1 c hc).1 (m5.extBut _ _ (D.b1 c hc).2.1 (m4.extBut _ _ (D.b1 c hc).2.2 (m3.extBut _ _ (D.b1 c hc).2.1 e)))
  · exact D2.frame _ _ _ u4 fun c hc o e => up _ _ (D.b2 c hc).1 (m5.extBut _ _ (D.b2 c hc).2.1 e)
theorem zipE {Q:PySem.Fin → Shared → Prop} (D1:Draws prog w A i1 fp1 n1 P1 S1) (D2:Draws prog w A i2 fp2 n2 P2 S2) (D:Apart z TI TO i1 i2 fp1 fp2) (hZ:IsZip s.heap z TI TO .none) (hI:IsPair s.heap TI (.ref i1) (.ref i2)) (hO:IsPair s.heap TO a b)
    (s1:S1 k s.heap) (s2:S2 k s.heap) (ke:k = n1 ∨ (k < n1 ∧ k = n2))
    (q:∀ h' e tk,(∀ c o,c ≠ z → c ≠ TO → c ≠ i1 → c ≠ i2 → s.heap.get? c = some o → h'.get? c = some o) → (∃ o,h'.get? e = some o ∧ o.cls = .type "StopIteration") → E (.ref e) { s with heap := h',toks := tk }) :
    wpAny (model prog w) A (Builtin.«zip.__next__» ⟨[.ref z],[]⟩) Q E s := by
  obtain ⟨hp,g,d,tk0,os⟩ := s
  refine (show wpAny _ _ (field (.ref z) 2 >>= _) _ _ _ from wpAny_bind (wpAny_field hZ rfl (x := .bool false) rfl ?_))
  refine (show wpAny _ _ (field (.ref z) 3 >>= _) _ _ _ from wpAny_bind (wpAny_field hZ rfl (x := .ref TI) rfl (wpAny_bind (wpAny_seqItems hI rfl ?_))))
  refine (show wpAny _ _ (Builtin.SmallTypes.ownedTupleIsFree (.ref z) >>= _) _ _ _ from wpAny_bind ?_)
  unfold Builtin.SmallTypes.ownedTupleIsFree
  refine wpAny_bind (wpAny_field hZ rfl (x := .none) rfl (wpAny_pure ?_))
  simp only [if_true]
  refine wpAny_bind (wpAny_rule (wpAny_bind (wpAny_field hZ rfl (x := .ref TO) rfl (wpAny_bind (wpAny_setField_rec hZ (by simp) fun g1 z1 m1 => ?_)))))
  replace z1:IsZip g1 z TI TO .ellipsis := z1
  replace m1:Heap.SameBut z hp g1 := m1
  refine wpAny_bind ?_
  simp only [List.zipIdx_cons,List.zipIdx_nil,List.forIn_cons,List.forIn_nil]
  have t1:S1 k g1 := D1.frame _ _ _ s1 fun c hc o e => m1.extBut _ _ (D.b1 c hc).1 e
  have u1:S2 k g1 := D2.frame _ _ _ s2 fun c hc o e => m1.extBut _ _ (D.b2 c hc).1 e
  rcases ke with ke | ⟨k1,ke⟩
  · subst ke
    refine wpAny_bind (wpAny_bind (wpAny_onRaise (show wpAny _ _ (Builtin.SmallTypes.nextOf (.ref i1) >>= _) _ _ _ from wpAny_bind (D1.done ⟨g1,g,d,tk0,os⟩ _ _ t1 fun g2 e m2 he => ?_))))
    obtain ⟨oe,he1,he2⟩ := he
    replace m2:Heap.ExtBut i1 g1 g2 := m2
    have z2:IsZip g2 z TI TO .ellipsis := m2 _ _ (Ne.symm D.c1.1) z1
    have ez:e ≠ z := fun x => by subst x; rw [z2] at he1; cases he1; simp at he2
    exact wpAny_setField_rec z2 (by simp) fun g3 _ m3 => q g3 e _ (fun c o n1 _ n3 _ x => m3.extBut _ _ n1 (m2 _ _ n3 (m1.extBut _ _ n1 x))) ⟨oe,m3.extBut _ _ ez he1,he2⟩
  · refine wpAny_bind (wpAny_bind (wpAny_onRaise (show wpAny _ _ (Builtin.SmallTypes.nextOf (.ref i1) >>= _) _ _ _ from wpAny_bind (D1.item k ⟨g1,g,d,tk0,os⟩ _ _ k1 t1 fun x g2 tk1 px t2 m2 => wpAny_pure ?_))))
    replace m2:Heap.SameBut i1 g1 g2 := m2
    have o2:IsPair g2 TO a b := m2.extBut _ _ (Ne.symm D.c1.2.1) (m1.extBut _ _ D.a2 hO)
    refine wpAny_bind (wpAny_seqItems o2 rfl (wpAny_bind (wpAny_updateSeq_pair o2 fun g3 o3 m3 => ?_)))
    replace m3:Heap.SameBut TO g2 g3 := m3
    have u3:S2 k g3 := D2.frame _ _ _ u1 fun c hc o e => m3.extBut _ _ (D.b2 c hc).2.1 (m2.extBut _ _ (D.b2 c hc).2.2 e)
    rw [ke] at u3
    refine wpAny_bind (wpAny_letGo (wpAny_pure ?_))
    refine wpAny_bind (wpAny_bind (wpAny_onRaise (show wpAny _ _ (Builtin.SmallTypes.nextOf (.ref i2) >>= _) _ _ _ from wpAny_bind (D2.done ⟨g3,g,d,tk1,os⟩ _ _ u3 fun g4 e m4 he => ?_))))
    obtain ⟨oe,he1,he2⟩ := he
    replace m4:Heap.ExtBut i2 g3 g4 := m4
    have z4:IsZip g4 z TI TO .ellipsis := m4 _ _ (Ne.symm D.c2.1) (m3.extBut _ _ (Ne.symm D.a2) (m2.extBut _ _ (Ne.symm D.c1.1) z1))
    have ez:e ≠ z := fun x => by subst x; rw [z4] at he1; cases he1; simp at he2
    exact wpAny_setField_rec z4 (by simp) fun g5 _ m5 => q g5 e _ (fun c o n1 n2 n3 n4 x => m5.extBut _ _ n1 (m4 _ _ n4 (m3.extBut _ _ n2 (m2.extBut _ _ n3 (m1.extBut _ _ n1 x))))) ⟨oe,m5.extBut _ _ ez he1,he2⟩
theorem Jxs {Q:Option Value → Shared → Prop} (D1:Draws prog w A.in1 i1 fp1 n1 P1 S1) (D2:Draws prog w A.in1 i2 fp2 n2 P2 S2) (D:Apart z TI TO i1 i2 fp1 fp2) (hZ:IsZip s.heap z TI TO .none) (hI:IsPair s.heap TI (.ref i1) (.ref i2)) (hO:IsPair s.heap TO a b)
    (s1:S1 k s.heap) (s2:S2 k s.heap) (k1:k < n1) (k2:k < n2)
    (q:∀ x y h' tk,P1 k x → P2 k y → IsZip h' z TI TO (rawInt s.heap.objs.size) → IsPair h' TO x y → S1 (k + 1) h' → S2 (k + 1) h' → IsPair h' s.heap.objs.size x y → h'.objs.size = s.heap.objs.size + 1 →
      (∀ c o,c ≠ z → c ≠ TO → c ≠ i1 → c ≠ i2 → s.heap.get? c = some o → h'.get? c = some o) → Q (some (.ref s.heap.objs.size)) { s with heap := h',toks := tk }) :
    wpAny (model prog w) A (pyNext (.ref z)) Q E s := by
  have T:s.TypeIs (.ref z) "zip" := ⟨_,hZ,rfl⟩
  unfold pyNext
  exact wpAny_bind (wpAny_attempt (wpAny_callSpecial?_slot (name := Str.ofString "__next__") T PySem.F.slot_zip_next (wpAny_call_entry PySem.F.slot_zip_next T PySem.F.entry_zip_next (zipI D1 D2 D hZ hI hO s1 s2 k1 k2 fun x y h' tk c1 c2 c3 c4 c5 c6 c7 c8 c9 => wpAny_pure (q x y h' tk c1 c2 c3 c4 c5 c6 c7 c8 c9)) (PySem.F.args_zip_next_1 _))))
theorem Jxr {Q:Option Value → Shared → Prop} (D1:Draws prog w A.in1 i1 fp1 n1 P1 S1) (D2:Draws prog w A.in1 i2 fp2 n2 P2 S2) (D:Apart z TI TO i1 i2 fp1 fp2) (hZ:IsZip s.heap z TI TO .none) (hI:IsPair s.heap TI (.ref i1) (.ref i2)) (hO:IsPair s.heap TO a b)
    (s1:S1 k s.heap) (s2:S2 k s.heap) (ke:k = n1 ∨ (k < n1 ∧ k = n2))
    (q:∀ h' tk,(∀ c o,c ≠ z → c ≠ TO → c ≠ i1 → c ≠ i2 → s.heap.get? c = some o → h'.get? c = some o) → Q none { s with heap := h',toks := tk }):wpAny (model prog w) A (pyNext (.ref z)) Q E s := by
  have T:s.TypeIs (.ref z) "zip" := ⟨_,hZ,rfl⟩
  unfold pyNext
  refine wpAny_bind (wpAny_attempt (wpAny_callSpecial?_slot (name := Str.ofString "__next__") T PySem.F.slot_zip_next (wpAny_call_entry PySem.F.slot_zip_next T PySem.F.entry_zip_next (zipE D1 D2 D hZ hI hO s1 s2 ke fun h' e tk kk he => ?_) (PySem.F.args_zip_next_1 _))))
  obtain ⟨o,e1,e2⟩ := he
  exact wpAny_bind (wpAny_isInstance (T := "StopIteration") (b := true) ⟨o,e1,e2⟩ isSubtype_stop (wpAny_pure (q h' tk kk)))
end
abbrev zt1 (h:Heap) (l1:Addr):Heap := h.push { cls := .type "tuple_iterator",data := .fields #[.ref l1,.int 0 0] }
abbrev zt2 (h:Heap) (l1 l2:Addr):Heap := (zt1 h l1).push { cls := .type "tuple_iterator",data := .fields #[.ref l2,.int 0 0] }
abbrev zt3 (h:Heap) (l1 l2:Addr):Heap := (zt2 h l1 l2).push { cls := .type "tuple",data := .seq #[.ref h.objs.size,.ref (zt1 h l1).objs.size] }
abbrev zt4 (h:Heap) (l1 l2:Addr):Heap := (zt3 h l1 l2).push { cls := .type "tuple",data := .seq #[.none,.none] }
abbrev zt5 (h:Heap) (l1 l2:Addr):Heap := (zt4 h l1 l2).push { cls := .type "zip",data := .fields #[.none,.bool false,.bool false,.ref (zt2 h l1 l2).objs.size,.ref (zt3 h l1 l2).objs.size] }
theorem Jxt (l1 l2:Addr) (xs ys:Array Value):Meets (Builtin.«zip.__new__» ⟨[.type "zip",.ref l1,.ref l2],[]⟩) (fun _ R s => s.heap.IsTuple l1 xs ∧ s.heap.IsTuple l2 ys ∧ R (.ok (.ret (.ref (zt4 s.heap l1 l2).objs.size))) { s with heap := zt5 s.heap l1 l2 }) :=
  .of_wp fun prog w A R s h => by
    obtain ⟨hp,g,d,tk,os⟩ := s
    obtain ⟨e1,e2,h⟩ := h
    have sub := sub_zip
    have T1:Heap.IsTuple (Shared.heap ⟨hp,g,d,tk,os⟩) l1 xs := e1
    have T2:Heap.IsTuple (Shared.heap ⟨hp.push { cls := .type "tuple_iterator",data := .fields #[.ref l1,.int 0 0] },g,d,tk,os⟩) l2 ys := Heap.IsTuple.push e2 _
    wp_walk using wpAny_pyIter_tuple T1,wpAny_pyIter_tuple T2
    exact ⟨_,rfl,h⟩
theorem Jwr {l1 l2:Addr} {xs ys:Array Value} {Q:Value → Shared → Prop} (e1:s.heap.IsTuple l1 xs) (e2:s.heap.IsTuple l2 ys)
    (q:∀ h',IsZip h' (s.heap.objs.size + 4) (s.heap.objs.size + 2) (s.heap.objs.size + 3) .none → IsPair h' (s.heap.objs.size + 2) (.ref s.heap.objs.size) (.ref (s.heap.objs.size + 1)) → IsPair h' (s.heap.objs.size + 3) .none .none →
      h'.IsTupleIter s.heap.objs.size l1 0 → h'.IsTupleIter (s.heap.objs.size + 1) l2 0 → (∀ c o,s.heap.get? c = some o → h'.get? c = some o) → Q (.ref (s.heap.objs.size + 4)) { s with heap := h' }) :
    wpAny (model prog w) A (call (.type "zip") [.ref l1,.ref l2]) Q E s := by
  refine callType_new PySem.F.called_zip (by decide) (PySem.F.typeCall_zip_2 _ _) (PySem.F.newCall_zip_2 _ _) (fun obj => PySem.F.args_object_init_3 obj _ _) PySem.F.entry_zip_new (Jxt l1 l2 xs ys) ⟨e1,e2,?_⟩
  have z1:(zt1 s.heap l1).objs.size = s.heap.objs.size + 1 := Heap.size_push ..
  have z2:(zt2 s.heap l1 l2).objs.size = s.heap.objs.size + 2 := by rw [Heap.size_push,z1]
  have z3:(zt3 s.heap l1 l2).objs.size = s.heap.objs.size + 3 := by rw [Heap.size_push,z2]
  have z4:(zt4 s.heap l1 l2).objs.size = s.heap.objs.size + 4 := by rw [Heap.size_push,z3]
  have g5:(zt5 s.heap l1 l2).get? (zt4 s.heap l1 l2).objs.size = some _ := Heap.get?_push_size _ rfl
  have g4:(zt5 s.heap l1 l2).get? (zt3 s.heap l1 l2).objs.size = some _ := Heap.get?_push_of_some _ (Heap.get?_push_size _ rfl)
  have g3:(zt5 s.heap l1 l2).get? (zt2 s.heap l1 l2).objs.size = some _ := Heap.get?_push_of_some _ (Heap.get?_push_of_some _ (Heap.get?_push_size _ rfl))
  have g2:(zt5 s.heap l1 l2).get? (zt1 s.heap l1).objs.size = some _ := Heap.get?_push_of_some _ (Heap.get?_push_of_some _ (Heap.get?_push_of_some _ (Heap.get?_push_size _ rfl)))
  have g1:(zt5 s.heap l1 l2).get? s.heap.objs.size = some _ := Heap.get?_push_of_some _ (Heap.get?_push_of_some _ (Heap.get?_push_of_some _ (Heap.get?_push_of_some _ (Heap.get?_push_size _ rfl))))
  have kk:∀ c o,s.heap.get? c = some o → (zt5 s.heap l1 l2).get? c = some o := fun c o e => Heap.get?_push_of_some _ (Heap.get?_push_of_some _ (Heap.get?_push_of_some _ (Heap.get?_push_of_some _ (Heap.get?_push_of_some _ e))))
  show _ ∧ _
  rw [z2,z3,z4] at g5
  rw [z1,z2] at g3
  rw [z3] at g4
  rw [z1] at g2
  have Z:IsZip (zt5 s.heap l1 l2) (s.heap.objs.size + 4) (s.heap.objs.size + 2) (s.heap.objs.size + 3) .none := g5
  rw [z4]
  exact ⟨⟨_,Z,rfl⟩,q _ Z g3 g4 ⟨_,g1,rfl,rfl⟩ ⟨_,g2,rfl,rfl⟩ kk⟩
end
end HT
end
section
set_option Elab.async false
set_option maxRecDepth 10000
set_option linter.all false
namespace L2
open PySem PySem.Spec PyProof.Rows
def HB (L:Bool) (xs:List V):HO := if L = true then .lst xs else .tup xs
theorem HB.inj {L:Bool} {xs ys:List V} (h:HB L xs = HB L ys):xs = ys := by cases L <;> cases h <;> rfl
def Itz (L:Bool) (a b:Addr):It :=
  ⟨fun i H => ∃ xs ys x y,H a = some (HB L xs) ∧ H b = some (HB L ys) ∧ xs[i]? = some x ∧ ys[i]? = some y,
   fun i H v H' => ∃ p x y,H p = none ∧ v = .ref p ∧ H' = upd H p (.tup [x,y]) ∧ (∀ xs,H a = some (HB L xs) → xs[i]? = some x) ∧ ∀ ys,H b = some (HB L ys) → ys[i]? = some y,
   fun i H => ∃ xs ys,H a = some (HB L xs) ∧ H b = some (HB L ys) ∧ (i = xs.length ∨ (i < xs.length ∧ i = ys.length))⟩
def Jlc (L:Bool) (h:Heap) (it a:Addr) (i:Nat):Prop := if L = true then h.IsListIter it a i else h.IsTupleIter it a i
def SeqB (L:Bool) (h:Heap) (a:Addr) (ws:Array Value):Prop := if L = true then h.IsList a ws else h.IsTuple a ws
theorem Jq4 {prog:Program} {w:World} {A:Around} (L:Bool) (ha:A.handled = none) (it t:Addr) (ne:t ≠ it) (ws:Array Value):Draws prog w A it [it,t] ws.size (fun i v => ws[i]? = some v) (fun i h => Jlc L h it t i ∧ SeqB L h t ws) := by
  cases L with
  | true => exact Draws.list ha it t ne ws
  | false => exact HT.JCh ha it t ne ws
theorem Jlc.at {L:Bool} {h h':Heap} {it a:Addr} {i:Nat} (x:Jlc L h it a i) (k:∀ o,h.get? it = some o → h'.get? it = some o):Jlc L h' it a i := by
  cases L with
  | true => exact Heap.IsListIter.at x k
  | false => exact Heap.IsTupleIter.at x k
theorem Jlc.obj {L:Bool} {h:Heap} {it a:Addr} {i:Nat} (x:Jlc L h it a i):∃ o vs,h.get? it = some o ∧ o.data = .fields vs := by
  cases L with
  | true => obtain ⟨o,e,_,d⟩ := (show h.IsListIter it a i from x); exact ⟨o,_,e,d⟩
  | false => obtain ⟨o,e,_,d⟩ := (show h.IsTupleIter it a i from x); exact ⟨o,_,e,d⟩
theorem Inv.seqB {X:Cx} {pins:List (Addr × Obj)} {σ:St} {H:Hp} {s:Shared} {L:Bool} {a:Addr} {xs:List V} (I:Inv X pins σ H s) (h:H a = some (HB L xs)):∃ its:List Value,Vals xs its ∧ SeqB L s.heap a its.toArray := by
  cases L with
  | true => obtain ⟨its,rv,p,_⟩ := I.list (SqL.of h); exact ⟨its,rv,p.isList⟩
  | false => obtain ⟨its,rv,p,_⟩ := I.tuple (SqT.of h); exact ⟨its,rv,p⟩
def JD6 (L:Bool) (a b z TI TO i1 i2:Addr) (i:Nat) (h:Heap):Prop := IsZip h z TI TO .none ∧ IsPair h TI (.ref i1) (.ref i2) ∧ (∃ c d,IsPair h TO c d) ∧ Jlc L h i1 a i ∧ Jlc L h i2 b i
theorem Jq9 {z TI TO i1 i2 a b:Addr} (d1:TI ≠ z) (d2:TO ≠ z) (d3:TI ≠ TO) (d4:i1 ≠ z ∧ i1 ≠ TO ∧ i1 ≠ TI) (d5:i2 ≠ z ∧ i2 ≠ TO ∧ i2 ≠ TI) (d6:i1 ≠ i2) (na:a ∉ [z,TI,TO,i1,i2]) (nb:b ∉ [z,TI,TO,i1,i2]):HT.Apart z TI TO i1 i2 [i1,a] [i2,b] where
  a1 := d1
  a2 := d2
  a3 := d3
  b1 := fun c hc => by
    simp only [List.mem_cons,List.not_mem_nil,or_false,not_or] at hc na
    rcases hc with rfl | rfl
    · exact ⟨d4.1,d4.2.1,d6⟩
    · exact ⟨na.1,na.2.2.1,na.2.2.2.2⟩
  b2 := fun c hc => by
    simp only [List.mem_cons,List.not_mem_nil,or_false,not_or] at hc nb
    rcases hc with rfl | rfl
    · exact ⟨d5.1,d5.2.1,Ne.symm d6⟩
    · exact ⟨nb.1,nb.2.2.1,nb.2.2.2.1⟩
  c1 := d4
  c2 := d5
  c3 := d6
theorem Juu {P:Program} {w:World} {K:PySem.W.Frag} {elts:List Expr} {x1:Nat} {pos:Pos} (L:Bool) (a b z TI TO i1 i2:Addr) (d1:TI ≠ z) (d2:TO ≠ z) (d3:TI ≠ TO) (d4:i1 ≠ z ∧ i1 ≠ TO ∧ i1 ≠ TI) (d5:i2 ≠ z ∧ i2 ≠ TO ∧ i2 ≠ TI) (d6:i1 ≠ i2) :
    Turn P w K (.Tuple elts x1 pos) (Itz L a b) [z,TI,TO,i1,i2] z (JD6 L a b z TI TO i1 i2) where
  mem := by simp
  obj := fun i h st c hc => by
    obtain ⟨h1,h2,⟨c',d',h3⟩,h4,h5⟩ := st
    simp only [List.mem_cons,List.not_mem_nil,or_false] at hc
    rcases hc with rfl | rfl | rfl | rfl | rfl
    · exact ⟨_,h1,fun v q => by cases q⟩
    · exact ⟨_,h2,fun v q => by cases q⟩
    · exact ⟨_,h3,fun v q => by cases q⟩
    · obtain ⟨o,vs,e,d⟩ := h4.obj
      exact ⟨o,e,fun v q => by rw [d] at q; cases q⟩
    · obtain ⟨o,vs,e,d⟩ := h5.obj
      exact ⟨o,e,fun v q => by rw [d] at q; cases q⟩
  keep := fun i h h' st k => by
    obtain ⟨h1,h2,⟨c',d',h3⟩,h4,h5⟩ := st
    exact ⟨k z (by simp) _ h1,k TI (by simp) _ h2,⟨c',d',k TO (by simp) _ h3⟩,h4.at fun o q => k i1 (by simp) o q,h5.at fun o q => k i2 (by simp) o q⟩
  item := by
    intro X hP hw hK hc i pins s σ H E I hf st hg
    subst hP hw hK
    obtain ⟨xs,ys,x,y,hq1,hq2,hx,hy⟩ := hg
    obtain ⟨its1,rv1,p1⟩ := I.seqB hq1
    obtain ⟨its2,rv2,p2⟩ := I.seqB hq2
    obtain ⟨u,hu,ru⟩ := rv1.get hx
    obtain ⟨v,hv,rv⟩ := rv2.get hy
    obtain ⟨h1,h2,⟨c',d',h3⟩,h4,h5⟩ := st
    have lt:∀ c ∈ [z,TI,TO,i1,i2],c < s.heap.objs.size := fun c hc => by
      simp only [List.mem_cons,List.not_mem_nil,or_false] at hc
      rcases hc with rfl | rfl | rfl | rfl | rfl
      · exact Heap.lt_size h1
      · exact Heap.lt_size h2
      · exact Heap.lt_size h3
      · obtain ⟨o,vs,e,_⟩ := h4.obj; exact Heap.lt_size e
      · obtain ⟨o,vs,e,_⟩ := h5.obj; exact Heap.lt_size e
    have na:a ∉ [z,TI,TO,i1,i2] := fun q => by rw [(hf a q).1] at hq1; cases hq1
    have nb:b ∉ [z,TI,TO,i1,i2] := fun q => by rw [(hf b q).1] at hq2; cases hq2
    have ap := Jq9 d1 d2 d3 d4 d5 d6 na nb
    have hh:X.A.in1.handled = none := I.ok.hd hc
    refine HT.Jxs (Jq4 L hh i1 a (fun q => na (by simp [q])) its1.toArray) (Jq4 L hh i2 b (fun q => nb (by simp [q])) its2.toArray) ap h1 h2 h3 ⟨h4,p1⟩ ⟨h5,p2⟩ (by rw [List.size_toArray]; exact (List.getElem?_eq_some_iff.mp hu).1) (by rw [List.size_toArray]; exact (List.getElem?_eq_some_iff.mp hv).1)
      fun x' y' h' tk q1 q2 z' o' s1' s2' tp sz k => ⟨_,rfl,?_⟩
    have q1':its1[i]? = some x' := by simpa using q1
    have q2':its2[i]? = some y' := by simpa using q2
    rw [hu] at q1'
    rw [hv] at q2'
    cases q1'
    cases q2'
    refine wpAny_letOwnedTupleGo_zip z' fun h3' z2 sb => ?_
    have sb':Heap.SameBut z h' h3' := sb
    have nz:s.heap.objs.size ≠ z := Nat.ne_of_gt (lt z (by simp))
    have J := I.JBe (h' := h3') (t' := tk) (fp := [z,TI,TO,i1,i2]) (x := x) (y := y) ru rv (sb'.extBut _ _ nz tp) (fun c o hc q => by
      simp only [List.mem_cons,List.not_mem_nil,or_false,not_or] at hc
      exact sb'.extBut _ _ hc.1 (k c o hc.1 hc.2.2.1 hc.2.2.2.1 hc.2.2.2.2 q)) hf lt
    refine ⟨.ref s.heap.objs.size,_,J,rfl,⟨_,x,y,I.hok.fresh (Nat.le_refl _),rfl,rfl,fun zs hz => ?_,fun zs hz => ?_⟩,⟨z2,?_,⟨_,_,sb'.extBut _ _ d2 o'⟩,s1'.1.at fun o q => sb'.extBut _ _ d4.1 q,s2'.1.at fun o q => sb'.extBut _ _ d5.1 q⟩,fun c hc => ?_⟩
    · rw [hq1] at hz
      rw [← HB.inj (Option.some.inj hz)]
      exact hx
    · rw [hq2] at hz
      rw [← HB.inj (Option.some.inj hz)]
      exact hy
    · exact sb'.extBut _ _ d1 (k TI _ d1 d3 (Ne.symm d4.2.2) (Ne.symm d5.2.2) h2)
    · rw [Jbg (Nat.ne_of_lt (lt c hc))]
      exact (hf c hc).1
  done := by
    intro X hP hw hK hc i pins s σ H E I hf st hg
    subst hP hw hK
    obtain ⟨xs,ys,hq1,hq2,ke⟩ := hg
    obtain ⟨its1,rv1,p1⟩ := I.seqB hq1
    obtain ⟨its2,rv2,p2⟩ := I.seqB hq2
    obtain ⟨h1,h2,⟨c',d',h3⟩,h4,h5⟩ := st
    have na:a ∉ [z,TI,TO,i1,i2] := fun q => by rw [(hf a q).1] at hq1; cases hq1
    have nb:b ∉ [z,TI,TO,i1,i2] := fun q => by rw [(hf b q).1] at hq2; cases hq2
    have hh:X.A.in1.handled = none := I.ok.hd hc
    refine HT.Jxr (Jq4 L hh i1 a (fun q => na (by simp [q])) its1.toArray) (Jq4 L hh i2 b (fun q => nb (by simp [q])) its2.toArray) (Jq9 d1 d2 d3 d4 d5 d6 na nb) h1 h2 h3 ⟨h4,p1⟩ ⟨h5,p2⟩ (by rw [List.size_toArray,List.size_toArray,← rv1.length,← rv2.length]; exact ke)
      fun h' tk k => ⟨rfl,I.Joq (t' := tk) (fp := [z,TI,TO,i1,i2]) (fun c o hc q => ?_) hf⟩
    simp only [List.mem_cons,List.not_mem_nil,or_false,not_or] at hc
    exact k c o hc.1 hc.2.2.1 hc.2.2.2.1 hc.2.2.2.2 q
  self := fun _ _ _ _ _ st h => wpAny_pyIter_zip st.1 h
abbrev iZip (L:Bool) (ta:TA):TI := fun σ H R => ta σ H fun vs H1 => ∃ a b xs ys,vs = [.ref a,.ref b] ∧ H1 a = some (HB L xs) ∧ H1 b = some (HB L ys) ∧ R (Itz L a b) H1
section
variable {X:Cx}
theorem Jwz (L:Bool) {a b:Expr} {ta:TA} {p pos:Pos} {elts:List Expr} {x1:Nat} {tpos:Pos} (hg:Gl X "zip") (hm:X.mg "zip" = none) (ha:PA X [a,b] ta) (hs:starEach [a,b] X.env = [(false,eval a X.env),(false,eval b X.env)] := by rfl) (hs2:starEach [b] X.env = [(false,eval b X.env)] := by rfl) :
    PI X (.Tuple elts x1 tpos) (.Call (.Name "zip" p) [a,b] [] pos) (iZip L ta) := by
  intro pins s σ H R I h
  refine Call_ (Jli I hg hm (by decide +kernel:bootBuiltins "zip" = some (.type "zip")) (PyProof.Rows.callWith_type1 (thn (ha pos pins s σ H _ I h) fun us s1 ⟨vs,H1,I1,r1,q1⟩ => ?_) (by rw [hs,hs2]) (by rw [hs2]; rfl)))
  obtain ⟨l,m,xs,ys,e,e1,e2,q⟩ := q1
  subst e
  obtain ⟨us1,us2⟩:us = [.ref l,.ref m] ∧ True := by
    cases r1 with
    | cons r rr =>
      cases rr with
      | cons r' rr =>
        cases rr
        cases r
        cases r'
        exact ⟨rfl,trivial⟩
  subst us1
  obtain ⟨its1,rv1,p1⟩ := I1.seqB e1
  obtain ⟨its2,rv2,p2⟩ := I1.seqB e2
  have fin:∀ h',IsZip h' (s1.heap.objs.size + 4) (s1.heap.objs.size + 2) (s1.heap.objs.size + 3) .none → IsPair h' (s1.heap.objs.size + 2) (.ref s1.heap.objs.size) (.ref (s1.heap.objs.size + 1)) → IsPair h' (s1.heap.objs.size + 3) .none .none →
      Jlc L h' s1.heap.objs.size l 0 → Jlc L h' (s1.heap.objs.size + 1) m 0 → (∀ c o,s1.heap.get? c = some o → h'.get? c = some o) → wpAny (model X.prog X.w) X.A (pyIter (.ref (s1.heap.objs.size + 4))) (PIE X pins σ (.Tuple elts x1 tpos) R) X.xe { s1 with heap := h' } := fun h' c1 c2 c3 c4 c5 k => by
    refine wpAny_pyIter_zip c1 ?_
    refine ⟨s1.heap.objs.size + 4,[s1.heap.objs.size + 4,s1.heap.objs.size + 2,s1.heap.objs.size + 3,s1.heap.objs.size,s1.heap.objs.size + 1],_,_,H1,rfl,I1.kept (t' := s1.toks) k,
      Juu L l m _ _ _ _ _ (by simp) (by simp) (by simp) ⟨by simp,by simp,by simp⟩ ⟨by simp,by simp,by simp⟩ (by simp),⟨c1,c2,⟨_,_,c3⟩,c4,c5⟩,fun c hc => ?_,q⟩
    have hc':s1.heap.objs.size ≤ c := by
      simp only [List.mem_cons,List.not_mem_nil,or_false] at hc
      rcases hc with rfl | rfl | rfl | rfl | rfl <;> first | exact Nat.le_add_right _ _ | exact Nat.le_refl _
    exact I1.fpOk hc' (I1.hok.fresh hc')
  cases L with
  | true => exact call_zip_2 p1 p2 fun h' c1 c2 c3 c4 c5 _ k => fin h' c1 c2 c3 c4 c5 k
  | false => exact HT.Jwr p1 p2 fun h' c1 c2 c3 c4 c5 k => fin h' c1 c2 c3 c4 c5 k
end
end L2
end
section
set_option Elab.async false
set_option maxRecDepth 10000
set_option linter.all false
namespace L2
open PySem PySem.Spec PyProof.Rows
section
variable {k:Nat} {caps:List Nat} {σ:St} {g:TG} {tt:TT} {te:TE} {Q:VK} {H:Hp}
end
end L2
end
section
set_option Elab.async false
set_option maxRecDepth 100000
set_option linter.all false
namespace HT
open PySem PySem.Spec PyProof.Rows
section
variable {prog:Program} {w:World} {A:Around} {E:Value → Shared → Prop} {s:Shared}
theorem Jzj {x:Value} {Tx:String} {tp:Addr} {cs:List Value} {vs:List Bool} {dd:Option Addr} {n:Nat} {sl:Array (Option Value)} (ha:AnswersAll (fun s => s.TypeIs x Tx) x cs vs) :
    Meets (Builtin.«isinstance» ⟨[x,.ref tp],[]⟩) (fun _ R s => s.TypeIs x Tx ∧ s.heap.get? tp = some { cls := .type "tuple",dict := dd,data := .seq cs.toArray n,slots := sl } ∧ ∀ tk,R (.ok (.ret (.bool (vs.any id)))) { s with toks := tk }) :=
  fun prog w A R s hs => isinstance_outer (by
    obtain ⟨h,g,d,t,os⟩ := s
    obtain ⟨hx,htp,hq⟩ := hs
    have T2:(⟨h,g,d,t,os⟩:Shared).TypeIs (.ref tp) "tuple" := ⟨_,htp,rfl⟩
    have f1 := PySem.F.isi_sub_tuple
    repeat (any_goals first | assumption | wp_step)
    refine wpAny_arrayLoop ?_
    simp only [List.toList_toArray,Option.getD_some]
    refine isinstance_items (dep := 0) (fun _ tk q => q.toks tk) cs vs _ _ ha hx fun tk' => ?_
    cases hv:vs.any id with
    | true =>
      simp only [if_true]
      repeat (any_goals first | assumption | wp_step)
      exact hv ▸ hq tk'
    | false =>
      simp only [if_false,Bool.false_eq_true]
      repeat (any_goals first | assumption | wp_step)
      exact hv ▸ hq tk') (Shared.TypeIs.not_mainsLoader hs.1)
end
end HT
namespace L2
open PySem PySem.Spec PyProof.Rows
def isSeq:PyData → Bool
  | .list _ => true
  | .tuple _ => true
  | _ => false
def noDict:PyData → Bool
  | .dict _ => false
  | _ => true
theorem JAe (T:String) (h:T = "tuple" ∨ T = "list"):typeOf (.type T) = pure (.type "type") := by rcases h with rfl | rfl <;> first | rfl | kernel_rfl
theorem Jht {a b:String} (h:(a,b) ∈ [("int","tuple"),("int","list"),("bool","tuple"),("bool","list"),("str","tuple"),("str","list"),("NoneType","tuple"),("NoneType","list"),("list","tuple"),("tuple","list")]):isSubtype (.type a) (.type b) = pure false := by
  simp only [List.mem_cons,List.not_mem_nil,or_false,Prod.mk.injEq] at h
  rcases h with ⟨rfl,rfl⟩ | ⟨rfl,rfl⟩ | ⟨rfl,rfl⟩ | ⟨rfl,rfl⟩ | ⟨rfl,rfl⟩ | ⟨rfl,rfl⟩ | ⟨rfl,rfl⟩ | ⟨rfl,rfl⟩ | ⟨rfl,rfl⟩ | ⟨rfl,rfl⟩ <;> (rw [isSubtype_type]; kernel_rfl)
theorem Jr7 {a:String} (h:a = "tuple" ∨ a = "list"):isSubtype (.type a) (.type a) = pure true := by rcases h with rfl | rfl <;> (rw [isSubtype_type]; kernel_rfl)
section
variable {X:Cx}
theorem Jmu:Jd1 X (.builtin "isinstance") (fun xs H Q => ∃ (N:Addr → Prop) (x:V) (d:PyData) (p:Addr),xs = [x,.ref p] ∧ H p = some (.tup [.ty "tuple",.ty "list"]) ∧ Tr N H x d ∧ noDict d = true ∧ Q (.bl (isSeq d)) H) := by
  intro pins s σ H xs us Q I r h
  obtain ⟨N,x,d,p,rfl,hp,t,nd,q⟩ := h
  obtain ⟨u,v,rfl,rx,rv⟩ := vals2 r
  cases (show v = Value.ref p from rv)
  obtain ⟨its,rt,pt,_⟩ := I.tuple (SqT.of hp)
  have ei:its = [.type "tuple",.type "list"] := by
    cases rt with
    | cons r1 rr =>
      cases rr with
      | cons r2 rn =>
        cases rn
        cases (show _ = Value.type "tuple" from r1)
        cases (show _ = Value.type "list" from r2)
        rfl
  subst ei
  obtain ⟨⟨c1,d1,x1,sl1⟩,ho,hc,n,hd⟩ := id pt
  simp only at hc hd
  subst hc hd
  have fin:∀ (Tx:String) (vs:List Bool),AnswersAll (fun s => s.TypeIs u Tx) u [.type "tuple",.type "list"] vs → s.TypeIs u Tx → vs.any id = isSeq d → wpAny (model X.prog X.w) X.A (call (.builtin "isinstance") [u,.ref p]) (EP X pins σ Q) X.xe s := fun Tx vs ha hx e =>
    call_isinstance (HT.Jzj (cs := [.type "tuple",.type "list"]) (dd := d1) (n := n) (sl := sl1) ha) ⟨hx,ho,fun tk => ⟨.bl (isSeq d),H,I.tok tk,(by rw [e]; rfl),q⟩⟩
  have y1 := JAe "tuple" (.inl rfl)
  have y2 := JAe "list" (.inr rfl)
  cases t with
  | non =>
    cases (show u = Value.none from rx)
    exact fin "NoneType" [false,false] (.cons (Answers.of_false_none (by decide) y1 (Jht (by decide))) (.cons (Answers.of_false_none (by decide) y2 (Jht (by decide))) .nil)) rfl rfl
  | bl b =>
    cases (show u = Value.bool b from rx)
    exact fin "bool" [false,false] (.cons (Answers.of_false_bool (by decide) y1 (Jht (by decide))) (.cons (Answers.of_false_bool (by decide) y2 (Jht (by decide))) .nil)) rfl rfl
  | int i =>
    obtain ⟨t,rfl⟩ := rx
    exact fin "int" [false,false] (.cons (Answers.of_false_int (by decide) y1 (Jht (by decide))) (.cons (Answers.of_false_int (by decide) y2 (Jht (by decide))) .nil)) rfl rfl
  | str z =>
    obtain ⟨t,rfl⟩ := rx
    exact fin "str" [false,false] (.cons (Answers.of_false_str (by decide) y1 (Jht (by decide))) (.cons (Answers.of_false_str (by decide) y2 (Jht (by decide))) .nil)) rfl rfl
  | lst n1 h1 t1 =>
    cases rx
    obtain ⟨its,_,pl,_⟩ := I.list (SqL.of h1)
    exact fin "list" [false,true] (.cons (Answers.of_false_list (by decide) y1 (Jht (by decide))) (.cons (Answers.of_true y2 (Jr7 (.inr rfl))) .nil)) pl.isList.typeIs rfl
  | tup n1 h1 t1 =>
    cases rx
    obtain ⟨its,_,pl,_⟩ := I.tuple (SqT.of h1)
    exact fin "tuple" [true,false] (.cons (Answers.of_true y1 (Jr7 (.inl rfl))) (.cons (Answers.of_false_tuple (by decide) y2 (Jht (by decide))) .nil)) pl.typeIs rfl
  | dct _ _ => cases nd
end
end L2
end
section
set_option Elab.async false
set_option maxRecDepth 10000
set_option linter.all false
namespace L2
open PySem PySem.Spec PyProof.Rows
mutual
theorem Tr.off {N:Addr → Prop} {H:Hp} {m:Addr} (hm:H m = none):∀ {v:V} {d:PyData},Tr N H v d → Tr (fun b => N b ∧ b ≠ m) H v d
  | _,_,.non => .non
  | _,_,.bl b => .bl b
  | _,_,.int i => .int i
  | _,_,.str x => .str x
  | _,_,.lst n h t => .lst ⟨n,fun e => by rw [e,hm] at h; cases h⟩ h (Jbw.off hm t)
  | _,_,.tup n h t => .tup ⟨n,fun e => by rw [e,hm] at h; cases h⟩ h (Jbw.off hm t)
  | _,_,.dct n h => .dct ⟨n,fun e => by rw [e,hm] at h; cases h⟩ h
theorem Jbw.off {N:Addr → Prop} {H:Hp} {m:Addr} (hm:H m = none):∀ {xs:List V} {ds:List PyData},Jbw N H xs ds → Jbw (fun b => N b ∧ b ≠ m) H xs ds
  | _,_,.nil => .nil
  | _,_,.cons r t => .cons (Tr.off hm r) (Jbw.off hm t)
end
end L2
namespace Bc
open PySem PySem.Spec PyProof.Rows L2
def lenD:PyData → Int
  | .tuple [.int a,.int b] => b - a
  | _ => 0
def JDh (es:List PyData):Int := es.foldl (fun acc d => acc * lenD d) 1
def Jds:PyData → Int
  | .tuple es => JDh es
  | _ => 0
def inD:PyData → Int → Bool
  | .tuple [.int a,.int b],n => decide (a ≤ n) && decide (n < b)
  | _,_ => false
def JB8 (es:List PyData) (ns:List Int):Bool := (es.zip ns).all fun p => inD p.1 p.2
def Jbt:PyData → List Int → Bool
  | .tuple es,ns => JB8 es ns
  | _,_ => false

structure Good (n:Nat) (ds:List PyData):Prop where
  n1:1 ≤ n
  n3:n ≤ 3
  le:ds.length ≤ Js8 (.int n)
  all:ds.all (boxD n) = true
theorem Good.most {n:Nat} {ds:List PyData} (g:Good n ds):ds.length ≤ 20 := by
  have hw:n = 1 ∨ n = 2 ∨ n = 3 := by have := g.n1; have := g.n3; omega
  have := g.le
  rcases hw with rfl | rfl | rfl
  · exact this
  · exact Nat.le_trans this (by decide)
  · exact Nat.le_trans this (by decide)
theorem Good.heap {n:Nat} {ds:List PyData} (g:Good n ds):JB5 (.tuple [.int n,.list ds]) = true := by
  have n1 := g.n1
  have n3 := g.n3
  have e1:Jto (.int n) = true := decide_eq_true (by omega)
  have e3:ds.all (Jwg (.int n)) = true := Jug g.all fun d z => by
    obtain ⟨es,rfl,hel,hb⟩ := Jz3 z
    have e0:Jwg (.int n) (.tuple es) = (decide ((n:Int) = 1 ∨ (n:Int) = 2 ∨ (n:Int) = 3) && decide ((n:Int) = (es.length:Int)) && es.all Jkq) := rfl
    rw [e0,decide_eq_true (by omega),decide_eq_true (by omega),Jug hb fun d z => (JCj z).2.2.2.2]
    rfl
  show (Jto (.int n) && decide (ds.length ≤ Js8 (.int n)) && ds.all (Jwg (.int n))) = true
  rw [e1,e3,decide_eq_true g.le]
  rfl
end Bc
end
section
set_option Elab.async false
set_option maxRecDepth 10000
set_option linter.all false
namespace L2
open PySem PySem.Spec PyProof.Rows
section
variable {X:Cx} {K:PySem.W.Frag}
theorem Jua (hc:X.calm = true) (hK:X.K = K):Jd1 X (.builtin "min") (fun xs H Q => ∃ (p:Addr) (ns:List Int),xs = [.ref p] ∧ SqL K H p (ns.map V.int) ∧ ns ≠ [] ∧ ∀ m,m ∈ ns → (∀ n ∈ ns,m ≤ n) → Q (.int m) H) := by
  subst hK
  intro pins s σ H xs us Q I r h
  obtain ⟨p,ns,rfl,hq,hne,q⟩ := h
  obtain ⟨u,rfl,rx⟩ := vals1 r
  cases rx
  obtain ⟨its,rv,pl,hz⟩ := I.list hq
  have hlen := rv.length
  rw [List.length_map] at hlen
  have hl := pl.isList
  have hlt:p < s.heap.objs.size := by obtain ⟨o,ho,_⟩ := hl; exact Heap.lt_size ho
  have hval:∀ i v,its.toArray[i]? = some v → ∃ t,v = Value.int (ns.getD i 0) t := fun i v e => by
    rw [List.getElem?_toArray] at e
    have hi:i < ns.length := by rw [hlen]; exact (List.getElem?_eq_some_iff.mp e).1
    obtain ⟨u,e1,ru⟩ := rv.get (i := i) (x := .int ns[i]) (by rw [List.getElem?_map,List.getElem?_eq_getElem hi]; rfl)
    rw [e] at e1; cases e1
    have e2:ns.getD i 0 = ns[i] := by rw [List.getD_eq_getElem?_getD,List.getElem?_eq_getElem hi]; rfl
    rw [e2]
    exact ru
  have hpos:0 < ns.length := List.length_pos_iff.mpr hne
  refine call_min_walk (wpAny_pyIter_list hl ?_)
  refine ⟨s.heap.objs.size,[s.heap.objs.size,p],[s.heap.objs.size],its.toArray.size,fun i v => its.toArray[i]? = some v,_,_,rfl,Walks.list (by simpa using I.ok.hd hc) s.heap.objs.size p (Nat.ne_of_lt hlt) its.toArray,⟨⟨_,Heap.get?_push_size _ rfl,rfl,rfl⟩,hl.push _⟩,?_,?_,CmpOf.ints_lt (fun i => ns.getD i 0) hval,fun v h' tk hP hk => ?_⟩
  · intro b hb
    show b < (s.heap.push _).objs.size
    rw [Heap.size_push]
    rcases List.mem_cons.mp hb with z | hb
    · rw [z]; exact Nat.lt_succ_self _
    · rw [List.mem_singleton.mp hb]; exact Nat.lt_succ_of_lt hlt
  · rw [List.size_toArray,← hlen]; exact hpos
  · obtain ⟨g1,g2⟩ := argBest_lt (fun i => ns.getD i 0) (its.toArray.size - 1)
    obtain ⟨t,rfl⟩ := hval _ _ hP
    rw [List.size_toArray,← hlen] at g1 g2
    have hb:argBest (fun i j => decide (ns.getD i 0 < ns.getD j 0)) (ns.length - 1) < ns.length := by omega
    rw [List.size_toArray,← hlen]
    refine ⟨.int _,H,I.kept (h' := h') (t' := tk) fun b o e => hk b o (fun z => ?_) (Heap.get?_push_of_some _ e),⟨t,rfl⟩,q _ ?_ fun n hn => ?_⟩
    · exact absurd (List.mem_singleton.mp z) (Nat.ne_of_lt (Heap.lt_size e))
    · rw [List.getD_eq_getElem?_getD,List.getElem?_eq_getElem hb]
      exact List.getElem_mem hb
    · obtain ⟨j,hj,rfl⟩ := List.getElem_of_mem hn
      have := g2 j (by omega)
      have e:ns.getD j 0 = ns[j] := by rw [List.getD_eq_getElem?_getD,List.getElem?_eq_getElem hj]; rfl
      rw [e] at this
      exact this
end
end L2
namespace Bc
open PySem PySem.Spec PyProof.Rows L2
def mx (i j:Int):Int := if j > i then j else i
def mn (i j:Int):Int := if j < i then j else i
def comS:PyData → PyData → PyData
  | .tuple [.int a,.int b],.tuple [.int c,.int d] => .tuple [.int (mx a c),.int (mn b d)]
  | _,_ => .none
def comL (es fs:List PyData):List PyData := (es.zip fs).map fun p => comS p.1 p.2
def Jnp (w:Nat):PyData → Int
  | .tuple es => (match es[w]? with | some (.tuple [.int a,.int _]) => a | _ => 0)
  | _ => 0
def Jju (w:Nat):PyData → Int
  | .tuple es => (match es[w]? with | some (.tuple [.int _,.int b]) => b | _ => 0)
  | _ => 0
end Bc
end
section
set_option Elab.async false
set_option maxRecDepth 10000
set_option linter.all false
namespace VS
open PySem PySem.Spec L2


inductive D where
  | non | bl (b:Bool) | int (i:Int) | str (x:Str) | ty (n:String)
  | tup (ds:List D) | lst (m:Bool) (ds:List D) | ref (i:Nat) | scr (ns:List Int) | emp

abbrev Mu := List (Option Addr)
def Live (μ:Mu) (a:Addr):Prop := some a ∈ μ

structure Fr where
  K:PySem.W.Frag
  H0:Hp
  N:Addr → Prop
  m0:List Addr
def Fr.Ok (Γ:Fr) (m:Bool) (a:Addr):Prop := (m = true → Γ.H0 a = none) ∧ (Γ.N a ∨ Γ.H0 a = none)

mutual
inductive VR (Γ:Fr) (μ:Mu) (H:Hp):V → D → Prop
  | non:VR Γ μ H .non .non
  | bl (b:Bool):VR Γ μ H (.bl b) (.bl b)
  | int (i:Int):VR Γ μ H (.int i) (.int i)
  | str (x:Str):VR Γ μ H (.str x) (.str x)
  | ty (n:String):VR Γ μ H (.ty n) (.ty n)
  | tup {a:Addr} {xs:List V} {ds:List D}:H a = some (.tup xs) → VRs Γ μ H xs ds → VR Γ μ H (.ref a) (.tup ds)
  | lst {m:Bool} {a:Addr} {xs:List V} {ds:List D}:Γ.Ok m a → ¬ Live μ a → H a = some (.lst xs) → VRs Γ μ H xs ds → VR Γ μ H (.ref a) (.lst m ds)
  | ref {i:Nat} {v:V}:i < μ.length → (∀ a,μ[i]? = some (some a) → v = .ref a) → VR Γ μ H v (.ref i)
  | scrK {a:Addr} {ns:List Int}:(∀ H',SqL Γ.K H' a (ns.map V.int)) → VR Γ μ H (.ref a) (.scr ns)
  | scrR {a:Addr} {ns:List Int} {o:Obj}:¬ Live μ a → H a = some (.frz o (.lst (ns.map V.int))) → VR Γ μ H (.ref a) (.scr ns)
  | emp {a:Addr}:¬ Live μ a → H a = some (.dK []) → VR Γ μ H (.ref a) .emp
inductive VRs (Γ:Fr) (μ:Mu) (H:Hp):List V → List D → Prop
  | nil:VRs Γ μ H [] []
  | cons {x:V} {d:D} {xs:List V} {ds:List D}:VR Γ μ H x d → VRs Γ μ H xs ds → VRs Γ μ H (x :: xs) (d :: ds)
end

structure Ext (μ:Mu) (H:Hp) (μ':Mu) (H':Hp):Prop where
  keep:∀ a o,H a = some o → ¬ Live μ a → H' a = some o ∧ ¬ Live μ' a
  tups:∀ a xs,H a = some (.tup xs) → H' a = some (.tup xs)
  none:∀ a,H' a = none → H a = none
  ids:∀ (i:Nat) (a:Addr),i < μ.length → μ'[i]? = some (some a) → μ[i]? = some (some a)
  len:μ.length ≤ μ'.length
theorem Ext.refl (μ:Mu) (H:Hp):Ext μ H μ H := ⟨fun _ _ h n => ⟨h,n⟩,fun _ _ h => h,fun _ h => h,fun _ _ _ h => h,Nat.le_refl _⟩
theorem Ext.trans {μ μ1 μ2:Mu} {H H1 H2:Hp} (a:Ext μ H μ1 H1) (b:Ext μ1 H1 μ2 H2):Ext μ H μ2 H2 :=
  ⟨fun c o h n => let ⟨x,y⟩ := a.keep c o h n; b.keep c o x y,fun c xs h => b.tups c xs (a.tups c xs h),fun c h => a.none c (b.none c h),fun i c hi h => a.ids i c hi (b.ids i c (Nat.lt_of_lt_of_le hi a.len) h),Nat.le_trans a.len b.len⟩

section
variable {Γ:Fr} {μ μ':Mu} {H H':Hp}
mutual
theorem VR.ext (e:Ext μ H μ' H'):∀ {v:V} {d:D},VR Γ μ H v d → VR Γ μ' H' v d
  | _,_,.non => .non
  | _,_,.bl b => .bl b
  | _,_,.int i => .int i
  | _,_,.str x => .str x
  | _,_,.ty n => .ty n
  | _,_,.tup h t => .tup (e.tups _ _ h) (VRs.ext e t)
  | _,_,.lst o n h t => .lst o (e.keep _ _ h n).2 (e.keep _ _ h n).1 (VRs.ext e t)
  | _,_,.ref hi f => .ref (Nat.lt_of_lt_of_le hi e.len) fun a q => f a (e.ids _ _ hi q)
  | _,_,.scrK h => .scrK h
  | _,_,.scrR n h => .scrR (e.keep _ _ h n).2 (e.keep _ _ h n).1
  | _,_,.emp n h => .emp (e.keep _ _ h n).2 (e.keep _ _ h n).1
theorem VRs.ext (e:Ext μ H μ' H'):∀ {vs:List V} {ds:List D},VRs Γ μ H vs ds → VRs Γ μ' H' vs ds
  | _,_,.nil => .nil
  | _,_,.cons r t => .cons (VR.ext e r) (VRs.ext e t)
end
theorem VRs.length:∀ {xs:List V} {ds:List D},VRs Γ μ H xs ds → xs.length = ds.length
  | _,_,.nil => rfl
  | _,_,.cons _ t => by rw [List.length_cons,List.length_cons,VRs.length t]
theorem VRs.append:∀ {xs ys:List V} {ds es:List D},VRs Γ μ H xs ds → VRs Γ μ H ys es → VRs Γ μ H (xs ++ ys) (ds ++ es)
  | _,_,_,_,.nil,t => t
  | _,_,_,_,.cons r s,t => .cons r (VRs.append s t)
theorem VRs.take:∀ {xs:List V} {ds:List D} (n:Nat),VRs Γ μ H xs ds → VRs Γ μ H (xs.take n) (ds.take n)
  | _,_,0,_ => .nil
  | _,_,_ + 1,.nil => .nil
  | _,_,n + 1,.cons r t => .cons r (VRs.take n t)
theorem VRs.drop:∀ {xs:List V} {ds:List D} (n:Nat),VRs Γ μ H xs ds → VRs Γ μ H (xs.drop n) (ds.drop n)
  | _,_,0,r => r
  | _,_,_ + 1,.nil => .nil
  | _,_,n + 1,.cons _ t => VRs.drop n t
theorem VRs.get:∀ {xs:List V} {ds:List D} {i:Nat} {d:D},VRs Γ μ H xs ds → ds[i]? = some d → ∃ x,xs[i]? = some x ∧ VR Γ μ H x d
  | _,_,_,_,.nil,h => by simp at h
  | _,_,0,_,.cons r _,h => by simp at h; subst h; exact ⟨_,rfl,r⟩
  | _,_,i + 1,d,.cons _ t,h => by
    obtain ⟨x,h1,h2⟩ := VRs.get (i := i) (d := d) t (by simpa using h)
    exact ⟨x,by simpa using h1,h2⟩
theorem VRs.set {x:V} {d:D} (r:VR Γ μ H x d):∀ {xs:List V} {ds:List D} (i:Nat),VRs Γ μ H xs ds → VRs Γ μ H (xs.set i x) (ds.set i d)
  | _,_,_,.nil => .nil
  | _,_,0,.cons _ t => .cons r t
  | _,_,i + 1,.cons q t => .cons q (VRs.set r i t)
theorem VRs.eraseIdx:∀ {xs:List V} {ds:List D} (i:Nat),VRs Γ μ H xs ds → VRs Γ μ H (xs.eraseIdx i) (ds.eraseIdx i)
  | _,_,_,.nil => .nil
  | _,_,0,.cons _ t => t
  | _,_,i + 1,.cons q t => .cons q (VRs.eraseIdx i t)
theorem VRs.reverse:∀ {xs:List V} {ds:List D},VRs Γ μ H xs ds → VRs Γ μ H xs.reverse ds.reverse
  | _,_,.nil => .nil
  | _,_,.cons r t => by rw [List.reverse_cons,List.reverse_cons]; exact (VRs.reverse t).append (.cons r .nil)
theorem VRs.rep {xs:List V} {ds:List D} (h:VRs Γ μ H xs ds):∀ n:Nat,VRs Γ μ H (List.replicate n xs).flatten (List.replicate n ds).flatten
  | 0 => .nil
  | n + 1 => by rw [List.replicate_succ,List.replicate_succ,List.flatten_cons,List.flatten_cons]; exact h.append (VRs.rep h n)
theorem VRs.ints:∀ (ns:List Int),VRs Γ μ H (ns.map V.int) (ns.map D.int)
  | [] => .nil
  | n :: r => .cons (.int n) (VRs.ints r)
theorem VRs.Jpj:∀ {xs:List V} {ns:List Int},VRs Γ μ H xs (ns.map D.int) → xs = ns.map V.int
  | _,[],.nil => rfl
  | _,n :: r,.cons q t => by cases q; rw [List.map_cons,VRs.Jpj t]
end

abbrev Env := List (Option D)
abbrev Store := List (Option (List D))
structure Rep (Γ:Fr) (μ:Mu) (σ:St) (H:Hp) (env:Env) (S:Store):Prop where
  vals:∀ (i:Nat) (d:D),env[i]? = some (some d) → ∃ v,σ[i]? = some (some v) ∧ VR Γ μ H v d
  len:σ.length = env.length
  sto:∀ (i:Nat) (ds:List D),S[i]? = some (some ds) → ∃ a xs,μ[i]? = some (some a) ∧ H a = some (.lst xs) ∧ VRs Γ μ H xs ds
  liv:∀ (i:Nat) (a:Addr),μ[i]? = some (some a) → ∃ ds,S[i]? = some (some ds)
  inj:∀ (i j:Nat) (a:Addr),μ[i]? = some (some a) → μ[j]? = some (some a) → i = j
  slen:S.length = μ.length
  ent:Ext (Γ.m0.map some) Γ.H0 μ H
  new:∀ (i:Nat) (a:Addr),Γ.m0.length ≤ i → μ[i]? = some (some a) → Γ.H0 a = none

section
variable {Γ:Fr} {μ μ':Mu} {σ σ2:St} {H H':Hp} {env env2:Env} {S S':Store}
theorem Rep.live (R:Rep Γ μ σ H env S) {a:Addr} (h:Live μ a):∃ xs,H a = some (.lst xs) := by
  obtain ⟨i,hi⟩ := List.mem_iff_getElem?.mp h
  obtain ⟨ds,hs⟩ := R.liv i a hi
  obtain ⟨b,xs,h1,h2,_⟩ := R.sto i ds hs
  rw [hi] at h1; cases h1
  exact ⟨xs,h2⟩
theorem Rep.dead (R:Rep Γ μ σ H env S) {p:Addr} (h:H p = none):¬ Live μ p := fun z => by
  obtain ⟨xs,e⟩ := R.live z
  rw [h] at e; cases e
theorem Rep.fresh (R:Rep Γ μ σ H env S) {p:Addr} (h:H p = none):Γ.H0 p = none := R.ent.none p h
theorem Rep.ok (R:Rep Γ μ σ H env S) {p:Addr} (h:H p = none) (m:Bool):Γ.Ok m p := ⟨fun _ => R.fresh h,.inr (R.fresh h)⟩
theorem Rep.grow (R:Rep Γ μ σ H env S) (e:Same H H'):Rep Γ μ σ H' env S ∧ Ext μ H μ H' := by
  have x:Ext μ H μ H' := ⟨fun a o h n => ⟨e a o h,n⟩,fun a xs h => e a _ h,fun a h => e.free h,fun _ _ _ h => h,Nat.le_refl _⟩
  refine ⟨⟨fun i d h => ?_,R.len,fun i ds h => ?_,R.liv,R.inj,R.slen,R.ent.trans x,R.new⟩,x⟩
  · obtain ⟨v,h1,h2⟩ := R.vals i d h
    exact ⟨v,h1,h2.ext x⟩
  · obtain ⟨a,xs,h1,h2,h3⟩ := R.sto i ds h
    exact ⟨a,xs,h1,e _ _ h2,h3.ext x⟩
theorem Rep.back (R:Rep Γ μ σ H env S) (x:Ext μ H μ' H') (R2:Rep Γ μ' σ2 H' env2 S'):Rep Γ μ' σ H' env S' :=
  ⟨fun i d h => let ⟨v,h1,h2⟩ := R.vals i d h; ⟨v,h1,h2.ext x⟩,R.len,R2.sto,R2.liv,R2.inj,R2.slen,R2.ent,R2.new⟩
theorem Rep.setv (R:Rep Γ μ σ H env S) (i:Nat) {v:V} {d:D} (r:VR Γ μ H v d):Rep Γ μ (σ.set i (some v)) H (env.set i (some d)) S := by
  refine ⟨fun j e h => ?_,by rw [List.length_set,List.length_set]; exact R.len,R.sto,R.liv,R.inj,R.slen,R.ent,R.new⟩
  by_cases hj:i = j
  · subst hj
    have hl:i < env.length := by
      have := (List.getElem?_eq_some_iff.mp h).1
      rw [List.length_set] at this; exact this
    rw [List.getElem?_set_self hl] at h
    cases h
    exact ⟨v,List.getElem?_set_self (by rw [R.len]; exact hl),r⟩
  · rw [List.getElem?_set_ne hj] at h ⊢
    exact R.vals j e h
theorem Rep.laid (R:Rep Γ μ σ H env S) {p:Addr} {xs:List V} {ds:List D} (hp:H p = none) (r:VRs Γ μ H xs ds) :
    Rep Γ (μ ++ [some p]) σ (upd H p (.lst xs)) env (S ++ [some ds]) ∧ Ext μ H (μ ++ [some p]) (upd H p (.lst xs)) := by
  have ne:∀ a o,H a = some o → a ≠ p := fun a o h z => by rw [z,hp] at h; cases h
  have x:Ext μ H (μ ++ [some p]) (upd H p (.lst xs)) := by
    refine ⟨fun a o h n => ⟨by rw [Jbg (ne a o h)]; exact h,fun z => ?_⟩,fun a ys h => by rw [Jbg (ne a _ h)]; exact h,fun a h => ?_,fun i a hi h => ?_,by rw [List.length_append]; omega⟩
    · rcases List.mem_append.mp z with z | z
      · exact n z
      · have z':a = p := by simpa using z
        exact ne a o h z'
    · by_cases ha:a = p
      · rw [ha,Jbj] at h; cases h
      · rw [Jbg ha] at h; exact h
    · rw [List.getElem?_append_left hi] at h; exact h
  have idx:∀ i a,(μ ++ [some p])[i]? = some (some a) → (i < μ.length ∧ μ[i]? = some (some a)) ∨ (i = μ.length ∧ a = p) := fun i a h => by
    by_cases hi:i < μ.length
    · rw [List.getElem?_append_left hi] at h; exact .inl ⟨hi,h⟩
    · rw [List.getElem?_append_right (by omega)] at h
      have hl := (List.getElem?_eq_some_iff.mp h).1
      have hi':i = μ.length := by simp at hl; omega
      subst hi'
      simp at h
      exact .inr ⟨rfl,h.symm⟩
  have no:∀ a,μ[a]? = some (some p) → False := fun i h => R.dead hp (List.mem_of_getElem? h)
  refine ⟨⟨fun i d h => ?_,R.len,fun i es h => ?_,fun i a h => ?_,fun i j a h1 h2 => ?_,by rw [List.length_append,List.length_append,R.slen]; rfl,R.ent.trans x,fun i a hi h => ?_⟩,x⟩
  · obtain ⟨v,h1,h2⟩ := R.vals i d h
    exact ⟨v,h1,h2.ext x⟩
  · by_cases hi:i < S.length
    · rw [List.getElem?_append_left hi] at h
      obtain ⟨a,ys,h1,h2,h3⟩ := R.sto i es h
      exact ⟨a,ys,by rw [List.getElem?_append_left (by rw [← R.slen]; exact hi)]; exact h1,by rw [Jbg (ne a _ h2)]; exact h2,h3.ext x⟩
    · rw [List.getElem?_append_right (by omega)] at h
      have hl := (List.getElem?_eq_some_iff.mp h).1
      have hi':i = S.length := by simp at hl; omega
      subst hi'
      simp at h
      subst h
      exact ⟨p,xs,by rw [R.slen]; simp,Jbj,r.ext x⟩
  · rcases idx i a h with ⟨hi,h⟩ | ⟨rfl,rfl⟩
    · obtain ⟨ds',q⟩ := R.liv i a h
      exact ⟨ds',by rw [List.getElem?_append_left (by rw [R.slen]; exact hi)]; exact q⟩
    · exact ⟨ds,by rw [← R.slen]; simp⟩
  · rcases idx i a h1 with ⟨_,g1⟩ | ⟨e1,e2⟩
    · rcases idx j a h2 with ⟨_,g2⟩ | ⟨e3,e4⟩
      · exact R.inj i j a g1 g2
      · exact (no i (e4 ▸ g1)).elim
    · rcases idx j a h2 with ⟨_,g2⟩ | ⟨e3,_⟩
      · exact (no j (e2 ▸ g2)).elim
      · rw [e1,e3]
  · rcases idx i a h with ⟨_,h⟩ | ⟨rfl,rfl⟩
    · exact R.new i a hi h
    · exact R.fresh hp
theorem Rep.put (R:Rep Γ μ σ H env S) {i:Nat} {a:Addr} {xs:List V} {ds:List D} (hi:μ[i]? = some (some a)) (r:VRs Γ μ H xs ds) :
    Rep Γ μ σ (upd H a (.lst xs)) env (S.set i (some ds)) ∧ Ext μ H μ (upd H a (.lst xs)) := by
  have hl:Live μ a := List.mem_of_getElem? hi
  obtain ⟨ys,hy⟩ := R.live hl
  have x:Ext μ H μ (upd H a (.lst xs)) := by
    refine ⟨fun b o h n => ⟨?_,n⟩,fun b zs h => ?_,fun b h => ?_,fun _ _ _ h => h,Nat.le_refl _⟩
    · rw [Jbg (fun z => n (by rw [z]; exact hl))]; exact h
    · rw [Jbg (fun z => by rw [z,hy] at h; cases h)]; exact h
    · by_cases hb:b = a
      · rw [hb,Jbj] at h; cases h
      · rw [Jbg hb] at h; exact h
  have hiS:i < S.length := by rw [R.slen]; exact (List.getElem?_eq_some_iff.mp hi).1
  refine ⟨⟨fun j d h => ?_,R.len,fun j es h => ?_,fun j b h => ?_,R.inj,by rw [List.length_set]; exact R.slen,R.ent.trans x,R.new⟩,x⟩
  · obtain ⟨v,h1,h2⟩ := R.vals j d h
    exact ⟨v,h1,h2.ext x⟩
  · by_cases hj:i = j
    · subst hj
      rw [List.getElem?_set_self hiS] at h
      cases h
      exact ⟨a,xs,hi,Jbj,r.ext x⟩
    · rw [List.getElem?_set_ne hj] at h
      obtain ⟨b,zs,h1,h2,h3⟩ := R.sto j es h
      refine ⟨b,zs,h1,?_,h3.ext x⟩
      rw [Jbg (fun z => hj (R.inj i j a hi (by rw [← z]; exact h1)))]
      exact h2
  · by_cases hj:i = j
    · subst hj; exact ⟨ds,List.getElem?_set_self hiS⟩
    · rw [List.getElem?_set_ne hj]; exact R.liv j b h
end
end VS
end
section
set_option Elab.async false
set_option maxRecDepth 10000
set_option linter.all false
namespace VS
open PySem PySem.Spec L2

abbrev ESem := Env → Store → Option (D × Store)
abbrev ASem := Env → Store → Option (List D × Store)
abbrev TSem := Env → Store → Option (Bool × Store)
abbrev OSem := Env → Store → Option (Option Int × Store)
inductive Fl where | nx | brk | cnt | ret (d:D)
abbrev SSem := Env → Store → Option (Fl × Env × Store)
abbrev ISem := Env → Store → Option ((List D × List (Nat × List D)) × Store)
abbrev GSem := D → Env → Option Env

def eVar (i:Nat):ESem := fun env S => (env[i]?.join).map fun d => (d,S)
def eC (d:D):ESem := fun _ S => some (d,S)
def eOp (g:Store → D → D → Option D) (a b:ESem):ESem := fun env S => (a env S).bind fun p => (b env p.2).bind fun q => (g q.2 p.1 q.1).map fun d => (d,q.2)
def eUn (g:Store → D → Option D) (a:ESem):ESem := fun env S => (a env S).bind fun p => (g p.2 p.1).map fun d => (d,p.2)
def aNil:ASem := fun _ S => some ([],S)
def Jab (a:ESem) (r:ASem):ASem := fun env S => (a env S).bind fun p => (r env p.2).bind fun q => some (p.1 :: q.1,q.2)
def eCB (g:Store → List D → Option D) (a:ASem):ESem := fun env S => (a env S).bind fun p => (g p.2 p.1).map fun d => (d,p.2)
def eAnd (a b:ESem):ESem := fun env S => (a env S).bind fun p => match p.1 with | .bl true => b env p.2 | .bl false => some (.bl false,p.2) | _ => none
def eNot (a:ESem):ESem := fun env S => (a env S).bind fun p => match p.1 with | .bl c => some (.bl (!c),p.2) | _ => none
def Jlr (g g':Store → D → D → Option D) (a b c:ESem):ESem := fun env S => (a env S).bind fun p => (b env p.2).bind fun q => (g q.2 p.1 q.1).bind fun z => match z with
  | .bl true => (c env q.2).bind fun r => (g' r.2 q.1 r.1).map fun d => (d,r.2)
  | .bl false => some (.bl false,q.2)
  | _ => none
def tVal (a:ESem):TSem := fun env S => (a env S).bind fun p => match p.1 with | .bl c => some (c,p.2) | _ => none
def tAnd (a b:TSem):TSem := fun env S => (a env S).bind fun p => if p.1 = true then b env p.2 else some (false,p.2)
def tOr (a b:TSem):TSem := fun env S => (a env S).bind fun p => if p.1 = true then some (true,p.2) else b env p.2
def tNot (a:TSem):TSem := fun env S => (a env S).bind fun p => some (!p.1,p.2)
def Je6:OSem := fun _ S => some (none,S)
def Je5 (a:ESem):OSem := fun env S => (a env S).bind fun p => match p.1 with | .int i => some (some i,p.2) | _ => none
def eSl (g:Store → D → Option Int → Option Int → Option D) (a:ESem) (l h:OSem):ESem := fun env S => (a env S).bind fun p => (l env p.2).bind fun q => (h env q.2).bind fun r => (g r.2 p.1 q.1 r.1).map fun d => (d,r.2)
def sSeq (a b:SSem):SSem := fun env S => (a env S).bind fun p => match p.1 with | .nx => b p.2.1 p.2.2 | f => some (f,p.2.1,p.2.2)
def sNil:SSem := fun env S => some (.nx,env,S)
def Jnc:SSem := fun _ _ => none
def sSet (i:Nat) (a:ESem):SSem := fun env S => (a env S).bind fun p => some (.nx,env.set i (some p.1),p.2)
def sAsg (a:ESem) (g:GSem):SSem := fun env S => (a env S).bind fun p => (g p.1 env).bind fun e => some (.nx,e,p.2)
def sExp (a:ESem):SSem := fun env S => (a env S).bind fun p => some (.nx,env,p.2)
def sRet (a:ESem):SSem := fun env S => (a env S).bind fun p => some (.ret p.1,env,p.2)
def sIf (c:TSem) (a b:SSem):SSem := fun env S => (c env S).bind fun p => if p.1 = true then a env p.2 else b env p.2

inductive Pat where
  | nm (i:Nat) | tp (ps:List Pat)
mutual
def Pat.sem:Pat → D → Env → Option Env
  | .nm i,d,env => some (env.set i (some d))
  | .tp ps,.tup ds,env => semS ps ds env
  | .tp _,_,_ => none
def semS:List Pat → List D → Env → Option Env
  | [],[],env => some env
  | p :: ps,d :: ds,env => (Pat.sem p d env).bind fun e => semS ps ds e
  | _,_,_ => none
end
mutual
def Pat.raw (K:PySem.W.Frag):Pat → TG
  | .nm i => Jwl i
  | .tp ps => gTup K ps.length (rawS K ps)
def rawS (K:PySem.W.Frag):List Pat → TGs
  | [] => gNil
  | p :: ps => Jzv (Pat.raw K p) (rawS K ps)
end
mutual
def Pat.low (k:Nat):Pat → Bool
  | .nm i => decide (i < k)
  | .tp ps => lowS k ps
def lowS (k:Nat):List Pat → Bool
  | [] => true
  | p :: ps => Pat.low k p && lowS k ps
end
mutual
theorem Pat.mono (K:PySem.W.Frag):∀ (p:Pat) (x:V) (σ:St) (H:Hp) (Q Q':St → Hp → Prop),(∀ σ' H',Q σ' H' → Q' σ' H') → p.raw K x σ H Q → p.raw K x σ H Q'
  | .nm i,x,σ,H,Q,Q',f,h => by rw [Pat.raw] at h ⊢; exact f _ _ h
  | .tp ps,x,σ,H,Q,Q',f,h => by rw [Pat.raw] at h ⊢; obtain ⟨a,xs,e,hs,hl,q⟩ := h; exact ⟨a,xs,e,hs,hl,Jy7 K ps xs σ H Q Q' f q⟩
theorem Jy7 (K:PySem.W.Frag):∀ (ps:List Pat) (x:List V) (σ:St) (H:Hp) (Q Q':St → Hp → Prop),(∀ σ' H',Q σ' H' → Q' σ' H') → rawS K ps x σ H Q → rawS K ps x σ H Q'
  | [],x,σ,H,Q,Q',f,h => by rw [rawS] at h ⊢; exact ⟨h.1,f _ _ h.2⟩
  | p :: ps,x,σ,H,Q,Q',f,h => by rw [rawS] at h ⊢; obtain ⟨v,r,e,q⟩ := h; exact ⟨v,r,e,Pat.mono K p v σ H _ _ (fun σ1 H1 z => Jy7 K ps r σ1 H1 Q Q' f z) q⟩
end
mutual
theorem Pat.Jwf (K:PySem.W.Frag) {k:Nat}:∀ (p:Pat),p.low k = true → Low k (p.raw K)
  | .nm i,h => by rw [Pat.raw]; rw [Pat.low] at h; exact Jvp (of_decide_eq_true h)
  | .tp ps,h => by rw [Pat.raw]; rw [Pat.low] at h; exact Jza (Jxl K ps h)
theorem Jxl (K:PySem.W.Frag) {k:Nat}:∀ (ps:List Pat),lowS k ps = true → LowS k (rawS K ps)
  | [],_ => by rw [rawS]; exact Jzb
  | p :: ps,h => by
    rw [rawS]
    rw [lowS,Bool.and_eq_true] at h
    exact Jvq (Pat.Jwf K p h.1) (Jxl K ps h.2) (Pat.mono K p) (Jy7 K ps)
end
theorem Jqc:∀ {ps:List Pat} {ds:List D} {env env':Env},semS ps ds env = some env' → ds.length = ps.length
  | [],[],_,_,_ => rfl
  | [],_ :: _,_,_,h => by simp [semS] at h
  | _ :: _,[],_,_,h => by simp [semS] at h
  | p :: ps,d :: ds,env,env',h => by
    rw [semS] at h
    cases e1:p.sem d env with
    | none => rw [e1] at h; cases h
    | some env1 =>
      rw [e1] at h
      rw [List.length_cons,List.length_cons,Jqc (show semS ps ds env1 = some env' from h)]
mutual
theorem Pat.run {Γ:Fr} {μ:Mu} {H:Hp} {S:Store} (K:PySem.W.Frag):∀ (p:Pat) {v:V} {d:D} {σ:St} {env env':Env} {Q:St → Hp → Prop},Rep Γ μ σ H env S → VR Γ μ H v d → p.sem d env = some env' → (∀ σ',Rep Γ μ σ' H env' S → Q σ' H) → p.raw K v σ H Q
  | .nm i,v,d,σ,env,env',Q,R,r,e,q => by
    rw [Pat.raw]
    rw [Pat.sem] at e
    cases e
    exact q _ (R.setv i r)
  | .tp ps,v,d,σ,env,env',Q,R,r,e,q => by
    rw [Pat.raw]
    cases r with
    | @tup b xs ds hb rs =>
      rw [Pat.sem] at e
      obtain ⟨hl,w⟩ := runS K ps R rs e q
      exact ⟨b,xs,rfl,SqT.of hb,hl,w⟩
    | _ => simp [Pat.sem] at e
theorem runS {Γ:Fr} {μ:Mu} {H:Hp} {S:Store} (K:PySem.W.Frag):∀ (ps:List Pat) {vs:List V} {ds:List D} {σ:St} {env env':Env} {Q:St → Hp → Prop},Rep Γ μ σ H env S → VRs Γ μ H vs ds → semS ps ds env = some env' → (∀ σ',Rep Γ μ σ' H env' S → Q σ' H) → vs.length = ps.length ∧ rawS K ps vs σ H Q
  | [],vs,ds,σ,env,env',Q,R,r,e,q => by
    rw [rawS]
    cases r with
    | nil => rw [semS] at e; cases e; exact ⟨rfl,rfl,q σ R⟩
    | cons _ _ => simp [semS] at e
  | p :: ps,vs,ds,σ,env,env',Q,R,r,e,q => by
    rw [rawS]
    cases r with
    | nil => simp [semS] at e
    | @cons y d ys ds' r1 r2 =>
      rw [semS] at e
      cases e1:p.sem d env with
      | none => rw [e1] at e; cases e
      | some env1 =>
        rw [e1] at e
        have e':semS ps ds' env1 = some env' := e
        have hl:ys.length = ps.length := by rw [r2.length]; exact Jqc e'
        exact ⟨by rw [List.length_cons,List.length_cons,hl],y,ys,rfl,Pat.run K p R r1 e1 fun σ1 R1 => (runS K ps R1 r2 e' q).2⟩
end
def calm (w:List (Nat × List D)) (S:Store):Prop := ∀ p ∈ w,S[p.1]? = some (some p.2)
open Classical in
noncomputable def loop (w:List (Nat × List D)) (g:GSem) (b:SSem):List D → SSem
  | [],env,S => if calm w S then some (.nx,env,S) else none
  | d :: r, env, S => if calm w S then (g d env).bind fun e => (b e S).bind fun p => match p.1 with
      | .nx => loop w g b r p.2.1 p.2.2
      | .cnt => loop w g b r p.2.1 p.2.2
      | .brk => some (.nx,p.2.1,p.2.2)
      | .ret d => some (.ret d,p.2.1,p.2.2)
    else none
noncomputable def sFor (it:ISem) (g:GSem) (b:SSem):SSem := fun env S => (it env S).bind fun p => loop p.1.2 g b p.1.1 env p.2
def capE (k:Nat) (caps:List Nat) (env:Env):Env := List.replicate k none ++ caps.map fun j => (env[j]?).join
open Classical in
noncomputable def Jfq (w:List (Nat × List D)) (e0:Env) (g:GSem) (t:TSem) (e:ESem):List D → List D → Store → Option (List D × Store)
  | [],ys,S => if calm w S ∧ ys.length ≤ 1000000 then some (ys,S) else none
  | d :: r, ys, S => if calm w S ∧ ys.length ≤ 1000000 then (g d e0).bind fun e1 => (t e1 S).bind fun p =>
      if p.1 = true then (e e1 p.2).bind fun q => Jfq w e0 g t e r (ys ++ [q.1]) q.2 else Jfq w e0 g t e r ys p.2
    else none
noncomputable def Jcg (k:Nat) (caps:List Nat) (it:ISem) (g:GSem) (t:TSem) (e:ESem):ASem := fun env S => (it env S).bind fun p => Jfq p.1.2 (capE k caps env) g t e p.1.1 [] p.2
def tYes:TSem := fun _ S => some (true,S)
def eFrz (a:ASem):ESem := fun env S => (a env S).bind fun p => some (.lst true p.1,p.2)
def eSto (a:ASem):ESem := fun env S => (a env S).bind fun p => some (.ref p.2.length,p.2 ++ [some p.1])
def eTup (a:ASem):ESem := fun env S => (a env S).bind fun p => some (.tup p.1,p.2)

def wpE (K:PySem.W.Frag) (f:ESem):TE := fun σ H Q => ∃ Γ μ env S d S',Γ.K = K ∧ Rep Γ μ σ H env S ∧ f env S = some (d,S') ∧ ∀ v μ' H',Ext μ H μ' H' → Rep Γ μ' σ H' env S' → VR Γ μ' H' v d → Q v H'
def wpA (K:PySem.W.Frag) (f:ASem):TA := fun σ H Q => ∃ Γ μ env S d S',Γ.K = K ∧ Rep Γ μ σ H env S ∧ f env S = some (d,S') ∧ ∀ v μ' H',Ext μ H μ' H' → Rep Γ μ' σ H' env S' → VRs Γ μ' H' v d → Q v H'
def wpT (K:PySem.W.Frag) (f:TSem):TT := fun σ H Q => ∃ Γ μ env S b S',Γ.K = K ∧ Rep Γ μ σ H env S ∧ f env S = some (b,S') ∧ ∀ μ' H',Ext μ H μ' H' → Rep Γ μ' σ H' env S' → Q b H'
def wpO (K:PySem.W.Frag) (f:OSem):TO := fun σ H Q => ∃ Γ μ env S b S',Γ.K = K ∧ Rep Γ μ σ H env S ∧ f env S = some (b,S') ∧ ∀ μ' H',Ext μ H μ' H' → Rep Γ μ' σ H' env S' → Q b H'
def FlQ (Γ:Fr) (μ:Mu) (E:Ends) (σ:St) (H:Hp):Fl → Prop
  | .nx => E.nx σ H
  | .brk => E.bk σ H
  | .cnt => E.ct σ H
  | .ret d => ∀ v,VR Γ μ H v d → E.rt v H
def wpS (K:PySem.W.Frag) (f:SSem):TS := fun E σ H => ∃ Γ μ env S fl env' S',Γ.K = K ∧ Rep Γ μ σ H env S ∧ f env S = some (fl,env',S') ∧ ∀ μ' σ' H',Ext μ H μ' H' → Rep Γ μ' σ' H' env' S' → FlQ Γ μ' E σ' H' fl

structure ItOk (Γ:Fr) (μ:Mu) (H:Hp) (J:It) (ds:List D) (w:List (Nat × List D)):Prop where
  step:∀ (i:Nat) (d:D) (μ':Mu) (H':Hp) (σ':St) (env':Env) (S':Store),ds[i]? = some d → Ext μ H μ' H' → Rep Γ μ' σ' H' env' S' → calm w S' → J.go i H' ∧ ∀ x H'',J.yld i H' x H'' → Same H' H'' ∧ VR Γ μ' H'' x d
  stop:∀ (μ':Mu) (H':Hp) (σ':St) (env':Env) (S':Store),Ext μ H μ' H' → Rep Γ μ' σ' H' env' S' → calm w S' → J.stop ds.length H'
def wpI (K:PySem.W.Frag) (f:ISem):TI := fun σ H R => ∃ Γ μ env S ds w S',Γ.K = K ∧ Rep Γ μ σ H env S ∧ f env S = some ((ds,w),S') ∧ ∀ J μ' H',Ext μ H μ' H' → Rep Γ μ' σ H' env S' → ItOk Γ μ' H' J ds w → R J H'

structure JE (X:Cx) (e:Expr) (f:ESem):Prop where
  pe:PE X e (wpE X.K f)
structure JA (X:Cx) (es:List Expr) (f:ASem):Prop where
  pa:PA X es (wpA X.K f)
structure JT (X:Cx) (e:Expr) (f:TSem):Prop where
  pt:PT X e (wpT X.K f)
structure JW (X:Cx) (e:Expr) (f:TSem):Prop where
  pw:PW X e (wpT X.K f)
structure JO (X:Cx) (e:Option Expr) (f:OSem):Prop where
  po:PO X e (wpO X.K f)
structure JS (X:Cx) (st:Stmt) (f:SSem):Prop where
  ps:PS X st (wpS X.K f)
structure JSs (X:Cx) (sts:List Stmt) (f:SSem):Prop where
  ps:PSs X sts (wpS X.K f)
structure JI (X:Cx) (tg e:Expr) (f:ISem):Prop where
  pi:PI X tg e (wpI X.K f)
structure JG (X:Cx) (tg:Expr) (p:Pat):Prop where
  pg:PG X tg (p.raw X.K)
structure JGs (X:Cx) (tgs:List Expr) (ps:List Pat):Prop where
  pg:PGs X tgs (rawS X.K ps)
structure JTs (X:Cx) (es:List Expr) (f:TSem):Prop where
  pt:PTs X es (wpT X.K f)

section
variable {X:Cx}
theorem PE.imp {e:Expr} {t t':TE} (h:PE X e t) (k:∀ σ H Q,t' σ H Q → t σ H Q):PE X e t' := fun pins s σ H Q I q => h pins s σ H Q I (k σ H Q q)
theorem PT.imp {e:Expr} {t t':TT} (h:PT X e t) (k:∀ σ H Q,t' σ H Q → t σ H Q):PT X e t' := fun pins s σ H Q I q => h pins s σ H Q I (k σ H Q q)
theorem PW.imp {e:Expr} {t t':TT} (h:PW X e t) (k:∀ σ H Q,t' σ H Q → t σ H Q):PW X e t' := fun w pins s σ H Q I q => h w pins s σ H Q I (k σ H Q q)
theorem PTs.imp {e:List Expr} {t t':TT} (h:PTs X e t) (k:∀ σ H Q,t' σ H Q → t σ H Q):PTs X e t' := fun pins s σ H Q I q => h pins s σ H Q I (k σ H Q q)
theorem PA.imp {e:List Expr} {t t':TA} (h:PA X e t) (k:∀ σ H Q,t' σ H Q → t σ H Q):PA X e t' := fun p pins s σ H Q I q => h p pins s σ H Q I (k σ H Q q)
theorem PO.imp {e:Option Expr} {t t':TO} (h:PO X e t) (k:∀ σ H Q,t' σ H Q → t σ H Q):PO X e t' := fun pins s σ H Q I q => h pins s σ H Q I (k σ H Q q)
theorem PS.imp {e:Stmt} {t t':TS} (h:PS X e t) (k:∀ E σ H,t' E σ H → t E σ H):PS X e t' := fun pins s σ H E I q => h pins s σ H E I (k E σ H q)
theorem PSs.imp {e:List Stmt} {t t':TS} (h:PSs X e t) (k:∀ E σ H,t' E σ H → t E σ H):PSs X e t' := fun pins s σ H E I q => h pins s σ H E I (k E σ H q)
theorem PI.imp {tg e:Expr} {t t':TI} (h:PI X tg e t) (k:∀ σ H R,t' σ H R → t σ H R):PI X tg e t' := fun pins s σ H R I q => h pins s σ H R I (k σ H R q)
theorem PG.imp {e:Expr} {t t':TG} (h:PG X e t) (k:∀ v σ H Q,t' v σ H Q → t v σ H Q):PG X e t' := fun pins s σ H v u Q I r q => h pins s σ H v u Q I r (k v σ H Q q)
theorem PGs.imp {e:List Expr} {t t':TGs} (h:PGs X e t) (k:∀ v σ H Q,t' v σ H Q → t v σ H Q):PGs X e t' := fun pins s σ H v u Q I r q => h pins s σ H v u Q I r (k v σ H Q q)

theorem bind_some {α β:Type} {a:Option α} {f:α → Option β} {b:β} (h:a.bind f = some b):∃ x,a = some x ∧ f x = some b := by
  cases a with
  | none => cases h
  | some x => exact ⟨x,rfl,h⟩
theorem map_some {α β:Type} {a:Option α} {f:α → β} {b:β} (h:a.map f = some b):∃ x,a = some x ∧ f x = b := by
  cases a with
  | none => cases h
  | some x => exact ⟨x,rfl,Option.some.inj h⟩

def Sem2 (K:PySem.W.Frag) (r:R2) (g:Store → D → D → Option D):Prop := ∀ (Γ:Fr) (μ:Mu) (σ:St) (H:Hp) (env:Env) (S:Store) (x y:V) (dx dy d:D),Γ.K = K → Rep Γ μ σ H env S → VR Γ μ H x dx → VR Γ μ H y dy → g S dx dy = some d →
  ∀ Q:VK,(∀ v H',Same H H' → VR Γ μ H' v d → Q v H') → r x y H Q
def Sem1 (K:PySem.W.Frag) (r:V → Hp → VK → Prop) (g:Store → D → Option D):Prop := ∀ (Γ:Fr) (μ:Mu) (σ:St) (H:Hp) (env:Env) (S:Store) (x:V) (dx d:D),Γ.K = K → Rep Γ μ σ H env S → VR Γ μ H x dx → g S dx = some d →
  ∀ Q:VK,(∀ v H',Same H H' → VR Γ μ H' v d → Q v H') → r x H Q
def SemC (K:PySem.W.Frag) (r:List V → Hp → VK → Prop) (g:Store → List D → Option D):Prop := ∀ (Γ:Fr) (μ:Mu) (σ:St) (H:Hp) (env:Env) (S:Store) (xs:List V) (ds:List D) (d:D),Γ.K = K → Rep Γ μ σ H env S → VRs Γ μ H xs ds → g S ds = some d →
  ∀ Q:VK,(∀ v H',Same H H' → VR Γ μ H' v d → Q v H') → r xs H Q
def JCq (K:PySem.W.Frag) (r:V → Option Int → Option Int → Hp → VK → Prop) (g:Store → D → Option Int → Option Int → Option D):Prop := ∀ (Γ:Fr) (μ:Mu) (σ:St) (H:Hp) (env:Env) (S:Store) (x:V) (dx d:D) (l h:Option Int),Γ.K = K → Rep Γ μ σ H env S → VR Γ μ H x dx → g S dx l h = some d →
  ∀ Q:VK,(∀ v H',Same H H' → VR Γ μ H' v d → Q v H') → r x l h H Q

theorem Juq {K:PySem.W.Frag} {r:R2} {g:Store → D → D → Option D} {fa fb:ESem} (hs:Sem2 K r g) {σ:St} {H:Hp} {Q:VK} (h:wpE K (eOp g fa fb) σ H Q):tOp r (wpE K fa) (wpE K fb) σ H Q := by
  obtain ⟨Γ,μ,env,S,d,S',hK,R,e,q⟩ := h
  obtain ⟨⟨x,S1⟩,e1,e⟩ := bind_some e
  obtain ⟨⟨y,S2⟩,e2,e⟩ := bind_some e
  obtain ⟨z,e3,e⟩ := map_some e
  cases e
  refine ⟨Γ,μ,env,S,x,S1,hK,R,e1,fun v1 μ1 H1 x1 R1 r1 => ?_⟩
  refine ⟨Γ,μ1,env,S1,y,S2,hK,R1,e2,fun v2 μ2 H2 x2 R2 r2 => ?_⟩
  refine hs Γ μ2 σ H2 env S2 v1 v2 x y _ hK R2 (r1.ext x2) r2 e3 Q fun v H' sm rv => ?_
  obtain ⟨R3,x3⟩ := R2.grow sm
  exact q v μ2 H' (x1.trans (x2.trans x3)) R3 rv
theorem Jaz {op:Operator} {r:R2} {g:Store → D → D → Option D} {a b:Expr} {fa fb:ESem} {pos:Pos} (ho:OpR X (binaryOp op) r) (hs:Sem2 X.K r g) (ha:JE X a fa) (hb:JE X b fb):JE X (.BinOp a op b pos) (eOp g fa fb) :=
  ⟨PE.imp (JDp ho ha.pe hb.pe) fun _ _ _ h => Juq hs h⟩
theorem Jnt {op:CmpOp} {r:R2} {g:Store → D → D → Option D} {a b:Expr} {fa fb:ESem} {pos:Pos} (ho:OpR X (compareOp op) r) (hs:Sem2 X.K r g) (ha:JE X a fa) (hb:JE X b fb) (hm:behindInMarks op b = false):JE X (.Compare a [op] [b] pos) (eOp g fa fb) :=
  ⟨PE.imp (Js0 ho ha.pe hb.pe hm) fun _ _ _ h => Juq hs h⟩
theorem Jbl {r:R2} {g:Store → D → D → Option D} {a b:Expr} {fa fb:ESem} {pos:Pos} (ho:IxR X r) (hs:Sem2 X.K r g) (ha:JE X a fa) (hb:JE X b fb) (hp:Jmz b):JE X (.Subscript a b pos) (eOp g fa fb) :=
  ⟨PE.imp (JDq ho ha.pe hb.pe hp) fun _ _ _ h => Juq hs h⟩
theorem Jzg {op:UnaryOp} {r:V → Hp → VK → Prop} {g:Store → D → Option D} {a:Expr} {fa:ESem} {pos:Pos} (ho:UnR X (unaryOp op) r) (hs:Sem1 X.K r g) (ha:JE X a fa):JE X (.UnaryOp op a pos) (eUn g fa) :=
  ⟨PE.imp (JA8 ho ha.pe) fun σ H Q h => by
    obtain ⟨Γ,μ,env,S,d,S',hK,R,e,q⟩ := h
    obtain ⟨⟨x,S1⟩,e1,e⟩ := bind_some e
    obtain ⟨z,e3,e⟩ := map_some e
    cases e
    refine ⟨Γ,μ,env,S,x,S1,hK,R,e1,fun v1 μ1 H1 x1 R1 r1 => ?_⟩
    refine hs Γ μ1 σ H1 env S1 v1 x _ hK R1 r1 e3 Q fun v H' sm rv => ?_
    obtain ⟨R3,x3⟩ := R1.grow sm
    exact q v μ1 H' (x1.trans x3) R3 rv⟩
theorem Jac (i:Nat) {x:Str} {pos:Pos} (hN:X.N[i]? = some x := by rfl) (hv:Vis X.env.scope x := by first | exact Or.inl rfl | exact Or.inr (Or.inl rfl) | exact Or.inr (Or.inr rfl)) (hd:(x == ("__debug__":Str)) = false := by decide)
    (hcd:(x == ("__classdict__":Str)) = false := by decide):JE X (.Name x pos) (eVar i) :=
  ⟨PE.imp (JA7 hN hv hd hcd) fun σ H Q h => by
    obtain ⟨Γ,μ,env,S,d,S',hK,R,e,q⟩ := h
    obtain ⟨d',e1,e⟩ := map_some e
    cases e
    have e1':env[i]? = some (some d) := by
      cases h:env[i]? with
      | none => rw [h] at e1; cases e1
      | some o => rw [h] at e1; exact congrArg some e1
    obtain ⟨v,h1,h2⟩ := R.vals i d e1'
    exact ⟨v,h1,q v μ H (Ext.refl _ _) R h2⟩⟩
theorem wp_c {K:PySem.W.Frag} {v:V} {d:D} (h:∀ Γ μ H,VR Γ μ H v d) {σ:St} {H:Hp} {Q:VK} (w:wpE K (eC d) σ H Q):tC v σ H Q := by
  obtain ⟨Γ,μ,env,S,d',S',hK,R,e,q⟩ := w
  cases e
  exact q v μ H (Ext.refl _ _) R (h Γ μ H)
theorem Jag {i j pos}:JE X (.Constant (.int i) j pos) (eC (.int i)) := ⟨PE.imp Jw1 fun _ _ _ => wp_c fun _ _ _ => .int i⟩
theorem Jhr {b j pos}:JE X (.Constant (.bool b) j pos) (eC (.bl b)) := ⟨PE.imp JDs fun _ _ _ => wp_c fun _ _ _ => .bl b⟩
theorem Jtk {j pos}:JE X (.Constant .none j pos) (eC .non) := ⟨PE.imp JBc fun _ _ _ => wp_c fun _ _ _ => .non⟩
theorem Jph {n:String} {x:Str} {pos:Pos} (hg:Gl X x) (hm:X.mg x = none) (hv:bootBuiltins x = some (.type n)) (hn:x ≠ "__name__" := by decide) (hd:(x == ("__debug__":Str)) = false := by decide):JE X (.Name x pos) (eC (.ty n)) :=
  ⟨PE.imp (Jyv (v := .ty n) hg hm hv rfl hn hd) fun _ _ _ => wp_c fun _ _ _ => .ty n⟩

theorem Jaf:JA X [] aNil := ⟨PA.imp Jqj fun σ H Q h => by
  obtain ⟨Γ,μ,env,S,d,S',hK,R,e,q⟩ := h
  cases e
  exact q [] μ H (Ext.refl _ _) R .nil⟩
theorem Jaa {e:Expr} {es:List Expr} {f:ESem} {r:ASem} (ha:JE X e f) (hr:JA X es r) (hs:starEach (e :: es) X.env = (false,eval e X.env) :: starEach es X.env := by rfl):JA X (e :: es) (Jab f r) :=
  ⟨PA.imp (Jl6 ha.pe hr.pa hs) fun σ H Q h => by
    obtain ⟨Γ,μ,env,S,d,S',hK,R,e,q⟩ := h
    obtain ⟨⟨x,S1⟩,e1,e⟩ := bind_some e
    obtain ⟨⟨y,S2⟩,e2,e⟩ := bind_some e
    cases e
    refine ⟨Γ,μ,env,S,x,S1,hK,R,e1,fun v1 μ1 H1 x1 R1 r1 => ?_⟩
    refine ⟨Γ,μ1,env,S1,y,S2,hK,R1,e2,fun v2 μ2 H2 x2 R2 r2 => ?_⟩
    exact q _ μ2 H2 (x1.trans x2) R2 (.cons (r1.ext x2) r2)⟩
theorem big {n:Nat} (h:n ≤ 1000000):n < sizeLine := Nat.lt_of_le_of_lt h (by decide)
theorem JAb {K:PySem.W.Frag} {f:ASem} {σ:St} {H:Hp} {Q:VK} (hl:∀ env S p,f env S = some p → p.1.length ≤ 1000000) (h:wpE K (eTup f) σ H Q):tTup (wpA K f) σ H Q := by
  obtain ⟨Γ,μ,env,S,d,S',hK,R,e,q⟩ := h
  obtain ⟨⟨x,S1⟩,e1,e⟩ := bind_some e
  cases e
  refine ⟨Γ,μ,env,S,x,S1,hK,R,e1,fun vs μ1 H1 x1 R1 r1 => ⟨by rw [r1.length]; exact Nat.le_of_lt (big (hl _ _ _ e1)),fun p hp => ?_⟩⟩
  have sm := Jby hp (.tup vs)
  obtain ⟨R2,x2⟩ := R1.grow sm
  exact q _ μ1 _ (x1.trans x2) R2 (.tup Jbj (r1.ext x2))
def Few (n:Nat) (f:ASem):Prop := ∀ env S p,f env S = some p → p.1.length ≤ n
theorem Ja7:Few 0 aNil := fun env S p h => by cases h; exact Nat.le_refl _
theorem Jal {n:Nat} {f:ESem} {r:ASem} (h:Few n r):Few (n + 1) (Jab f r) := fun env S p e => by
  obtain ⟨⟨x,S1⟩,e1,e⟩ := bind_some e
  obtain ⟨⟨y,S2⟩,e2,e⟩ := bind_some e
  cases e
  have := h _ _ _ e2
  show (x :: y).length ≤ n + 1
  rw [List.length_cons]
  exact Nat.succ_le_succ this
theorem Jed {es:List Expr} {f:ASem} {x1:Nat} {pos:Pos} {n:Nat} (h:JA X es f) (hf:Few n f) (hn:n ≤ 1000000 := by decide):JE X (.Tuple es x1 pos) (eTup f) := ⟨PE.imp (JA9 h.pa) fun _ _ _ w => JAb (fun env S p e => Nat.le_trans (hf env S p e) hn) w⟩
theorem Jdf {es:List Expr} {f:ASem} {pos:Pos} {n:Nat} (h:JA X es f) (hf:Few n f) (hn:n ≤ 1000000 := by decide):JE X (.List es pos) (eFrz f) := ⟨PE.imp (Jw0 h.pa) fun σ H Q w => by
  obtain ⟨Γ,μ,env,S,d,S',hK,R,e,q⟩ := w
  obtain ⟨⟨x,S1⟩,e1,e⟩ := bind_some e
  cases e
  refine ⟨Γ,μ,env,S,x,S1,hK,R,e1,fun vs μ1 H1 x1 R1 r1 => ⟨by rw [r1.length]; exact Nat.le_of_lt (big (Nat.le_trans (hf _ _ _ e1) hn)),fun p hp => ?_⟩⟩
  obtain ⟨R2,x2⟩ := R1.grow (Jby hp (.lst vs))
  exact q _ μ1 _ (x1.trans x2) R2 (.lst (R1.ok hp true) (R1.dead hp) Jbj (r1.ext x2))⟩
theorem Jmi {es:List Expr} {f:ASem} {pos:Pos} {n:Nat} (h:JA X es f) (hf:Few n f) (hn:n ≤ 1000000 := by decide):JE X (.List es pos) (eSto f) := ⟨PE.imp (Jw0 h.pa) fun σ H Q w => by
  obtain ⟨Γ,μ,env,S,d,S',hK,R,e,q⟩ := w
  obtain ⟨⟨x,S1⟩,e1,e⟩ := bind_some e
  cases e
  refine ⟨Γ,μ,env,S,x,S1,hK,R,e1,fun vs μ1 H1 x1 R1 r1 => ⟨by rw [r1.length]; exact Nat.le_of_lt (big (Nat.le_trans (hf _ _ _ e1) hn)),fun p hp => ?_⟩⟩
  obtain ⟨R2,x2⟩ := R1.laid hp r1
  exact q _ _ _ (x1.trans x2) R2 (.ref (by rw [List.length_append,R1.slen]; simp) fun a h => by
    rw [R1.slen] at h
    simp at h
    rw [h])⟩
end
end VS
end
section
set_option Elab.async false
set_option maxRecDepth 10000
set_option linter.all false
namespace VS
open PySem PySem.Spec L2
section
variable {X:Cx} {a b c:Expr} {fa fb fc:ESem} {pos:Pos} {rest:List Expr}

theorem Jqv {op} (h:JE X a fa):JE X (.BoolOp op [a] pos) fa := ⟨JBa h.pe⟩
theorem Jnu (ha:JE X a fa) (hb:JE X (.BoolOp .And (b :: rest) pos) fb):JE X (.BoolOp .And (a :: b :: rest) pos) (eAnd fa fb) := ⟨PE.imp (JBd ha.pe hb.pe) fun σ H Q h => by
  obtain ⟨Γ,μ,env,S,d,S',hK,R,e,q⟩ := h
  obtain ⟨⟨x,S1⟩,e1,e⟩ := bind_some e
  refine ⟨Γ,μ,env,S,x,S1,hK,R,e1,fun v1 μ1 H1 x1 R1 r1 => ?_⟩
  dsimp only at e
  split at e
  · cases r1
    exact ⟨true,rfl,by rw [if_pos rfl]; exact ⟨Γ,μ1,env,S1,d,S',hK,R1,e,fun v μ' H' x' R' r' => q v μ' H' (x1.trans x') R' r'⟩⟩
  · cases r1
    cases e
    exact ⟨false,rfl,by rw [if_neg Bool.false_ne_true]; exact q _ μ1 H1 x1 R1 (.bl false)⟩
  · cases e⟩
theorem Jw6 (ha:JE X a fa):JE X (.UnaryOp .Not a pos) (eNot fa) := ⟨PE.imp (JBb ha.pe) fun σ H Q h => by
  obtain ⟨Γ,μ,env,S,d,S',hK,R,e,q⟩ := h
  obtain ⟨⟨x,S1⟩,e1,e⟩ := bind_some e
  refine ⟨Γ,μ,env,S,x,S1,hK,R,e1,fun v1 μ1 H1 x1 R1 r1 => ?_⟩
  dsimp only at e
  split at e
  · rename_i c
    cases r1
    cases e
    exact ⟨c,rfl,q _ μ1 H1 x1 R1 (.bl _)⟩
  · cases e⟩
theorem Jel {e:Expr} (h:JE X e fa) (he:∀ whole,isTrue e X.env whole = (do let v ← whole; standAt e.pos; holding [v] (truthy v)) := by intro _; rfl):JT X e (tVal fa) := ⟨PT.imp (JAz h.pe he) fun σ H Q h => by
  obtain ⟨Γ,μ,env,S,d,S',hK,R,e,q⟩ := h
  obtain ⟨⟨x,S1⟩,e1,e⟩ := bind_some e
  refine ⟨Γ,μ,env,S,x,S1,hK,R,e1,fun v1 μ1 H1 x1 R1 r1 => ?_⟩
  dsimp only at e
  split at e
  · rename_i c
    cases r1
    cases e
    exact ⟨_,rfl,q μ1 H1 x1 R1⟩
  · cases e⟩
theorem Jxu {K:PySem.W.Frag} {f:ESem} {t:TE} (ht:∀ σ H Q,wpE K f σ H Q → t σ H Q) {σ:St} {H:Hp} {Q:Bool → Hp → Prop} (h:wpT K (tVal f) σ H Q):JAh t σ H Q := by
  obtain ⟨Γ,μ,env,S,d,S',hK,R,e,q⟩ := h
  obtain ⟨⟨x,S1⟩,e1,e⟩ := bind_some e
  refine ht σ H _ ⟨Γ,μ,env,S,x,S1,hK,R,e1,fun v1 μ1 H1 x1 R1 r1 => ?_⟩
  dsimp only at e
  split at e
  · cases r1
    cases e
    exact ⟨_,rfl,q μ1 H1 x1 R1⟩
  · cases e
theorem Jcf {op:CmpOp} {r:R2} {g:Store → D → D → Option D} (ho:OpR X (compareOp op) r) (hs:Sem2 X.K r g) (ha:JE X a fa) (hb:JE X b fb) (hm:behindInMarks op b = false):JT X (.Compare a [op] [b] pos) (tVal (eOp g fa fb)) :=
  ⟨PT.imp (Jyj ho ha.pe hb.pe hm) fun σ H Q h => Jxu (fun _ _ _ => Juq hs) h⟩
theorem Jur {K:PySem.W.Frag} {r r':R2} {g g':Store → D → D → Option D} (hs:Sem2 K r g) (hs':Sem2 K r' g') {σ:St} {H:Hp} {Q:VK} (h:wpE K (Jlr g g' fa fb fc) σ H Q):Jww r r' (wpE K fa) (wpE K fb) (wpE K fc) σ H Q := by
  obtain ⟨Γ,μ,env,S,d,S',hK,R,e,q⟩ := h
  obtain ⟨⟨x,S1⟩,e1,e⟩ := bind_some e
  obtain ⟨⟨y,S2⟩,e2,e⟩ := bind_some e
  obtain ⟨z,e3,e⟩ := bind_some e
  refine ⟨Γ,μ,env,S,x,S1,hK,R,e1,fun v1 μ1 H1 x1 R1 r1 => ?_⟩
  refine ⟨Γ,μ1,env,S1,y,S2,hK,R1,e2,fun v2 μ2 H2 x2 R2 r2 => ?_⟩
  refine hs Γ μ2 σ H2 env S2 v1 v2 x y _ hK R2 (r1.ext x2) r2 e3 _ fun v H3 sm rv => ?_
  obtain ⟨R3,x3⟩ := R2.grow sm
  dsimp only at e
  split at e
  · cases rv
    refine ⟨true,rfl,?_⟩
    rw [if_pos rfl]
    obtain ⟨⟨u,S3⟩,e4,e⟩ := bind_some e
    obtain ⟨w,e5,e⟩ := map_some e
    cases e
    refine ⟨Γ,μ2,env,S2,u,S3,hK,R3,e4,fun v4 μ4 H4 x4 R4 r4 => ?_⟩
    refine hs' Γ μ4 σ H4 env S3 v2 v4 y u _ hK R4 (r2.ext (x3.trans x4)) r4 e5 _ fun v5 H5 sm5 rv5 => ?_
    obtain ⟨R5,x5⟩ := R4.grow sm5
    exact q v5 μ4 H5 (x1.trans (x2.trans (x3.trans (x4.trans x5)))) R5 rv5
  · cases rv
    cases e
    refine ⟨false,rfl,?_⟩
    rw [if_neg Bool.false_ne_true]
    exact q _ μ2 H3 (x1.trans (x2.trans x3)) R3 (.bl false)
  · cases e
theorem Jqx {op op':CmpOp} {r r':R2} {g g':Store → D → D → Option D} (ho:OpR X (compareOp op) r) (hs:Sem2 X.K r g) (ho':OpR X (compareOp op') r') (hs':Sem2 X.K r' g') (ha:JE X a fa) (hb:JE X b fb) (hc:JE X c fc)
    (hm:lastMarks [op,op'] [b,c] = false := by with_unfolding_all rfl):JE X (.Compare a [op,op'] [b,c] pos) (Jlr g g' fa fb fc) := ⟨PE.imp (Jvc ho ho' ha.pe hb.pe hc.pe hm) fun _ _ _ h => Jur hs hs' h⟩
variable {ta tb:TSem}
theorem Jjc (h:JW X a ta):JT X a ta := ⟨h.pw.pt⟩
theorem Jtj (ha:JT X a ta):JW X (.BoolOp .And [a] pos) ta := ⟨Jyg ha.pt⟩
theorem Jhc (ha:JT X a ta):JW X (.BoolOp .Or [a] pos) ta := ⟨JAv ha.pt⟩
theorem Jw3 (ha:JT X a ta) (hb:JW X (.BoolOp .And (b :: rest) pos) tb):JW X (.BoolOp .And (a :: b :: rest) pos) (tAnd ta tb) := ⟨PW.imp (JAw ha.pt hb.pw) fun σ H Q h => by
  obtain ⟨Γ,μ,env,S,d,S',hK,R,e,q⟩ := h
  obtain ⟨⟨x,S1⟩,e1,e⟩ := bind_some e
  refine ⟨Γ,μ,env,S,x,S1,hK,R,e1,fun μ1 H1 x1 R1 => ?_⟩
  dsimp only at e
  by_cases hx:x = true
  · rw [if_pos hx] at e ⊢
    exact ⟨Γ,μ1,env,S1,d,S',hK,R1,e,fun μ' H' x' R' => q μ' H' (x1.trans x') R'⟩
  · rw [if_neg hx] at e ⊢
    cases e
    exact q μ1 H1 x1 R1⟩
theorem Jid (ha:JT X a ta) (hb:JW X (.BoolOp .Or (b :: rest) pos) tb):JW X (.BoolOp .Or (a :: b :: rest) pos) (tOr ta tb) := ⟨PW.imp (JDn ha.pt hb.pw) fun σ H Q h => by
  obtain ⟨Γ,μ,env,S,d,S',hK,R,e,q⟩ := h
  obtain ⟨⟨x,S1⟩,e1,e⟩ := bind_some e
  refine ⟨Γ,μ,env,S,x,S1,hK,R,e1,fun μ1 H1 x1 R1 => ?_⟩
  dsimp only at e
  by_cases hx:x = true
  · rw [if_pos hx] at e ⊢
    cases e
    exact q μ1 H1 x1 R1
  · rw [if_neg hx] at e ⊢
    exact ⟨Γ,μ1,env,S1,d,S',hK,R1,e,fun μ' H' x' R' => q μ' H' (x1.trans x') R'⟩⟩
theorem Jfx (ha:JT X a ta):JT X (.UnaryOp .Not a pos) (tNot ta) := ⟨PT.imp (JA0 ha.pt) fun σ H Q h => by
  obtain ⟨Γ,μ,env,S,d,S',hK,R,e,q⟩ := h
  obtain ⟨⟨x,S1⟩,e1,e⟩ := bind_some e
  cases e
  exact ⟨Γ,μ,env,S,x,S1,hK,R,e1,fun μ1 H1 x1 R1 => q μ1 H1 x1 R1⟩⟩
theorem Jcq:JTs X [] tYes := ⟨PTs.imp Jyi fun σ H Q h => by
  obtain ⟨Γ,μ,env,S,d,S',hK,R,e,q⟩ := h
  cases e
  exact q μ H (Ext.refl _ _) R⟩
theorem Jze (h:JT X c ta):JTs X [c] ta := ⟨Jyh h.pt⟩

variable {lo hi:Option Expr} {ol oh:OSem} {p2:Pos}
theorem Jfj:JO X none Je6 := ⟨PO.imp Jyp fun σ H Q h => by
  obtain ⟨Γ,μ,env,S,d,S',hK,R,e,q⟩ := h
  cases e
  exact q μ H (Ext.refl _ _) R⟩
theorem Jfi (h:JE X a fa):JO X (some a) (Je5 fa) := ⟨PO.imp (Jyo h.pe) fun σ H Q h => by
  obtain ⟨Γ,μ,env,S,d,S',hK,R,e,q⟩ := h
  obtain ⟨⟨x,S1⟩,e1,e⟩ := bind_some e
  refine ⟨Γ,μ,env,S,x,S1,hK,R,e1,fun v1 μ1 H1 x1 R1 r1 => ?_⟩
  dsimp only at e
  split at e
  · cases r1
    cases e
    exact ⟨_,rfl,q μ1 H1 x1 R1⟩
  · cases e⟩
theorem Jeg {r:V → Option Int → Option Int → Hp → VK → Prop} {g:Store → D → Option Int → Option Int → Option D} (hr:SlR X r) (hs:JCq X.K r g) (ha:JE X a fa) (hl:JO X lo ol) (hh:JO X hi oh) :
    JE X (.Subscript a (.Slice lo hi none p2) pos) (eSl g fa ol oh) := ⟨PE.imp (Jva hr ha.pe hl.po hh.po) fun σ H Q h => by
  obtain ⟨Γ,μ,env,S,d,S',hK,R,e,q⟩ := h
  obtain ⟨⟨x,S1⟩,e1,e⟩ := bind_some e
  obtain ⟨⟨l,S2⟩,e2,e⟩ := bind_some e
  obtain ⟨⟨u,S3⟩,e3,e⟩ := bind_some e
  obtain ⟨z,e4,e⟩ := map_some e
  cases e
  refine ⟨Γ,μ,env,S,x,S1,hK,R,e1,fun v1 μ1 H1 x1 R1 r1 => ?_⟩
  refine ⟨Γ,μ1,env,S1,l,S2,hK,R1,e2,fun μ2 H2 x2 R2 => ?_⟩
  refine ⟨Γ,μ2,env,S2,u,S3,hK,R2,e3,fun μ3 H3 x3 R3 => ?_⟩
  refine hs Γ μ3 σ H3 env S3 v1 x _ l u hK R3 (r1.ext (x2.trans x3)) e4 Q fun v H' sm rv => ?_
  obtain ⟨R4,x4⟩ := R3.grow sm
  exact q v μ3 H' (x1.trans (x2.trans (x3.trans x4))) R4 rv⟩

theorem JAd {K:PySem.W.Frag} {r:List V → Hp → VK → Prop} {g:Store → List D → Option D} {f:ASem} (hs:SemC K r g) {σ:St} {H:Hp} {Q:VK} (h:wpE K (eCB g f) σ H Q):tCB r (wpA K f) σ H Q := by
  obtain ⟨Γ,μ,env,S,d,S',hK,R,e,q⟩ := h
  obtain ⟨⟨x,S1⟩,e1,e⟩ := bind_some e
  obtain ⟨z,e4,e⟩ := map_some e
  cases e
  refine ⟨Γ,μ,env,S,x,S1,hK,R,e1,fun v1 μ1 H1 x1 R1 r1 => ?_⟩
  refine hs Γ μ1 σ H1 env S1 v1 x _ hK R1 r1 e4 Q fun v H' sm rv => ?_
  obtain ⟨R4,x4⟩ := R1.grow sm
  exact q v μ1 H' (x1.trans x4) R4 rv
variable {x:Str} {p:Pos} {e:Expr} {es:List Expr} {id T:String} {f:ASem}
theorem Jat {r:List V → Hp → VK → Prop} {g:Store → List D → Option D} (hc:Jd1 X (.builtin id) r) (hsm:SemC X.K r g) (hg:Gl X x) (hm:X.mg x = none) (hv:bootBuiltins x = some (.builtin id)) (ha:JA X (e :: es) f) (hn:x ≠ "__name__" := by decide) (hdb:(x == ("__debug__":Str)) = false := by decide)
    (he:starEach (e :: es) X.env = (false,eval e X.env) :: starEach es X.env := by rfl) (hpl:(backTo pos (starEach es X.env)).any (·.1) = false := by rfl):JE X (.Call (.Name x p) (e :: es) [] pos) (eCB g f) :=
  ⟨PE.imp (Jqi hc hg hm hv ha.pa hn hdb he hpl) fun _ _ _ h => JAd hsm h⟩
theorem Jdr {r:List V → Hp → VK → Prop} {g:Store → List D → Option D} (hc:Jd1 X (.type T) r) (hsm:SemC X.K r g) (hg:Gl X x) (hm:X.mg x = none) (hv:bootBuiltins x = some (.type T)) (ha:JA X (e :: es) f) (hn:x ≠ "__name__" := by decide) (hdb:(x == ("__debug__":Str)) = false := by decide)
    (he:starEach (e :: es) X.env = (false,eval e X.env) :: starEach es X.env := by rfl) (hpl:(backTo pos (starEach es X.env)).any (·.1) = false := by rfl):JE X (.Call (.Name x p) (e :: es) [] pos) (eCB g f) :=
  ⟨PE.imp (Jip hc hg hm hv ha.pa hn hdb he hpl) fun _ _ _ h => JAd hsm h⟩
end

section
variable {X:Cx} {st:Stmt} {sts:List Stmt} {f g:SSem} {fa:ESem} {a:Expr} {pos:Pos} {K:PySem.W.Frag}
theorem JC9 {E:Ends} {σ:St} {H:Hp} {fl:Fl} (h:wpS K (fun env S => some (fl,env,S)) E σ H):∃ Γ μ,FlQ Γ μ E σ H fl := by
  obtain ⟨Γ,μ,env,S,fl',env',S',hK,R,e,q⟩ := h
  cases e
  exact ⟨Γ,μ,q μ σ H (Ext.refl _ _) R⟩
theorem Jbq:JSs X [] sNil := ⟨PSs.imp Jyl fun E σ H h => let ⟨_,_,q⟩ := JC9 (fl := .nx) h; q⟩
theorem Jmg:JS X st Jnc := ⟨PS.imp Ju7 fun E σ H h => by obtain ⟨_,_,_,_,_,_,_,_,_,e,_⟩ := h; cases e⟩
theorem FlQ.ext {Γ:Fr} {μ:Mu} {E E':Ends} {σ:St} {H:Hp} {fl:Fl} (q:FlQ Γ μ E σ H fl) (h1:∀ σ H,E.nx σ H → E'.nx σ H) (h2:∀ σ H,E.bk σ H → E'.bk σ H) (h3:∀ σ H,E.ct σ H → E'.ct σ H) (h4:∀ v H,E.rt v H → E'.rt v H):FlQ Γ μ E' σ H fl := by
  cases fl with
  | nx => exact h1 _ _ q
  | brk => exact h2 _ _ q
  | cnt => exact h3 _ _ q
  | ret d => exact fun v r => h4 _ _ (q v r)
theorem Jak (h1:JS X st f) (h2:JSs X sts g):JSs X (st :: sts) (sSeq f g) := ⟨PSs.imp (Ju6 h1.ps h2.ps) fun E σ H h => by
  obtain ⟨Γ,μ,env,S,fl,env',S',hK,R,e,q⟩ := h
  obtain ⟨⟨fl1,env1,S1⟩,e1,e⟩ := bind_some e
  refine ⟨Γ,μ,env,S,fl1,env1,S1,hK,R,e1,fun μ1 σ1 H1 x1 R1 => ?_⟩
  dsimp only at e
  cases fl1 with
  | nx => exact ⟨Γ,μ1,env1,S1,fl,env',S',hK,R1,e,fun μ' σ' H' x' R' => q μ' σ' H' (x1.trans x') R'⟩
  | brk => cases e; exact q μ1 σ1 H1 x1 R1
  | cnt => cases e; exact q μ1 σ1 H1 x1 R1
  | ret d => cases e; exact q μ1 σ1 H1 x1 R1⟩
theorem Jao (h1:JS X st f):JSs X [st] f := ⟨Jyk h1.ps⟩
theorem Jis (he:JE X a fa) (hs:swapsWith a none pos.line X.env = pure false := by rfl):JS X (.Expr a pos) (sExp fa) := ⟨PS.imp (Jyn he.pe hs) fun E σ H h => by
  obtain ⟨Γ,μ,env,S,fl,env',S',hK,R,e,q⟩ := h
  obtain ⟨⟨x,S1⟩,e1,e⟩ := bind_some e
  cases e
  exact ⟨Γ,μ,env,S,x,S1,hK,R,e1,fun v1 μ1 H1 x1 R1 r1 => q μ1 σ H1 x1 R1⟩⟩
theorem Ja8 (he:JE X a fa):JS X (.Return (some a) pos) (sRet fa) := ⟨PS.imp (JA2 he.pe) fun E σ H h => by
  obtain ⟨Γ,μ,env,S,fl,env',S',hK,R,e,q⟩ := h
  obtain ⟨⟨x,S1⟩,e1,e⟩ := bind_some e
  cases e
  exact ⟨Γ,μ,env,S,x,S1,hK,R,e1,fun v1 μ1 H1 x1 R1 r1 => q μ1 σ H1 x1 R1 v1 r1⟩⟩
theorem Jdq {c:Expr} {A B:List Stmt} {tc:TSem} (hc:JT X c tc) (ha:JSs X A f) (hb:JSs X B g):JS X (.If c A B pos) (sIf tc f g) := ⟨PS.imp (JDo hc.pt ha.ps hb.ps) fun E σ H h => by
  obtain ⟨Γ,μ,env,S,fl,env',S',hK,R,e,q⟩ := h
  obtain ⟨⟨x,S1⟩,e1,e⟩ := bind_some e
  refine ⟨Γ,μ,env,S,x,S1,hK,R,e1,fun μ1 H1 x1 R1 => ?_⟩
  dsimp only at e
  by_cases hx:x = true
  · rw [if_pos hx] at e ⊢
    exact ⟨Γ,μ1,env,S1,fl,env',S',hK,R1,e,fun μ' σ' H' x' R' => q μ' σ' H' (x1.trans x') R'⟩
  · rw [if_neg hx] at e ⊢
    exact ⟨Γ,μ1,env,S1,fl,env',S',hK,R1,e,fun μ' σ' H' x' R' => q μ' σ' H' (x1.trans x') R'⟩⟩
theorem Jbs {i:Nat} {x:Str} {pos':Pos} (hN:X.N.Nodup) (he:JE X a fa) (hi:X.N[i]? = some x := by rfl) (hx:Loc X.env.scope x := by first | exact Or.inl rfl | exact Or.inr rfl) (hs:swapsWith a (some (.Name x pos')) pos.line X.env = pure false := by rfl)
    (hf:X.fn x = true ∨ X.env.scope.names.lookup x = some .local := by first | exact .inl rfl | exact .inr rfl | assumption):JS X (.Assign [.Name x pos'] a pos) (sSet i fa) := ⟨PS.imp (JA1 hN hi hx he.pe hs hf) fun E σ H h => by
  obtain ⟨Γ,μ,env,S,fl,env',S',hK,R,e,q⟩ := h
  obtain ⟨⟨y,S1⟩,e1,e⟩ := bind_some e
  cases e
  exact ⟨Γ,μ,env,S,y,S1,hK,R,e1,fun v1 μ1 H1 x1 R1 r1 => q μ1 _ H1 x1 (R1.setv i r1)⟩⟩
theorem Ja5 {i:Nat} {x:Str} (hN:X.N.Nodup) (hi:X.N[i]? = some x := by rfl) (hx:Loc X.env.scope x := by first | exact Or.inl rfl | exact Or.inr rfl)
    (hf:X.fn x = true ∨ X.env.scope.names.lookup x = some .local := by first | exact .inl rfl | exact .inr rfl | assumption):JG X (.Name x pos) (.nm i) := ⟨by rw [Pat.raw]; exact Jys hN hi hx hf⟩
theorem Jf0:JGs X [] [] := ⟨by rw [rawS]; exact Jyr⟩
theorem Jch {e:Expr} {es:List Expr} {t:Pat} {u:List Pat} (h1:JG X e t) (h2:JGs X es u)
    (hs:(assignEach (e :: es) X.env).map (·.2) = assign e X.env :: (assignEach es X.env).map (·.2) := by rfl):JGs X (e :: es) (t :: u) := ⟨by rw [rawS]; exact Ju9 h1.pg h2.pg hs⟩
theorem Jhv {es:List Expr} {k:Nat} {gs:List Pat} (hc:X.calm = true) (h:JGs X es gs) (hn:(assignEach es X.env).length = gs.length := by rfl) (hst:(assignEach es X.env).findIdx? (·.1) = none := by rfl):JG X (.Tuple es k pos) (.tp gs) :=
  ⟨by rw [Pat.raw]; exact JA5 hc h.pg hn hst⟩
theorem Jw4 {tg:Expr} {gg:Pat} (he:JE X a fa) (hg:JG X tg gg) (hs:swapsWithSole [tg] a pos.line X.env = pure false := by rfl) (hw:swappedStores [tg] a X.env = pure none := by rfl)
    (h1:(assignEach [tg] X.env).map (·.2) = [assign tg X.env] := by rfl):JS X (.Assign [tg] a pos) (sAsg fa gg.sem) := ⟨PS.imp (Jwy he.pe hg.pg hs hw h1) fun E σ H h => by
  obtain ⟨Γ,μ,env,S,fl,env',S',hK,R,e,q⟩ := h
  obtain ⟨⟨y,S1⟩,e1,e⟩ := bind_some e
  obtain ⟨env1,e2,e⟩ := bind_some e
  cases e
  exact ⟨Γ,μ,env,S,y,S1,hK,R,e1,fun v1 μ1 H1 x1 R1 r1 => gg.run X.K R1 r1 e2 fun σ' R' => q μ1 σ' H1 x1 R'⟩⟩

theorem ItOk.ext {Γ:Fr} {μ μ':Mu} {H H':Hp} {J:It} {ds:List D} {w:List (Nat × List D)} (h:ItOk Γ μ H J ds w) (x:Ext μ H μ' H'):ItOk Γ μ' H' J ds w :=
  ⟨fun i d μ2 H2 σ2 e2 S2 hi x2 R2 c => h.step i d μ2 H2 σ2 e2 S2 hi (x.trans x2) R2 c,fun μ2 H2 σ2 e2 S2 x2 R2 c => h.stop μ2 H2 σ2 e2 S2 (x.trans x2) R2 c⟩
theorem Jir {tg iter:Expr} {body:List Stmt} {it:ISem} {gg:Pat} (hc:X.calm = true) (hi:JI X tg iter it) (hg:JG X tg gg) (hb:JSs X body f) (hp:PassesOwn (model X.prog X.w) X.A X.env X.xe)
    (hs:∀ x,foldedSetIterable iter X.env x = pure x := by intro _; rfl):JS X (.For tg iter body [] pos) (sFor it gg.sem f) := ⟨PS.imp (JA3 hp hc hi.pi hg.pg hb.ps hs) fun E σ H h => by
  obtain ⟨Γ,μ,env,S,fl,env',S',hK,R,e,q⟩ := h
  obtain ⟨⟨⟨ds,w⟩,S1⟩,e1,e⟩ := bind_some e
  refine ⟨Γ,μ,env,S,ds,w,S1,hK,R,e1,fun J μ1 H1 x1 R1 ok => ?_⟩
  refine ⟨fun i m σ2 H2 => ∃ μ2 env2 S2,m = ds.length - i ∧ i ≤ ds.length ∧ Ext μ1 H1 μ2 H2 ∧ Rep Γ μ2 σ2 H2 env2 S2 ∧ loop w gg.sem f (ds.drop i) env2 S2 = some (fl,env',S'),⟨ds.length,μ1,env,S1,rfl,Nat.zero_le _,Ext.refl _ _,R1,by rw [List.drop_zero]; exact e⟩,?_⟩
  rintro i m σ2 H2 ⟨μ2,env2,S2,rfl,hi,x2,R2,el⟩
  by_cases hlt:i < ds.length
  · rw [List.drop_eq_getElem_cons hlt] at el
    unfold loop at el
    by_cases hcm:calm w S2
    · rw [if_pos hcm] at el
      obtain ⟨env3,e3,el⟩ := bind_some el
      obtain ⟨⟨fl4,env4,S4⟩,e4,el⟩ := bind_some el
      obtain ⟨go,yl⟩ := ok.step i ds[i] μ2 H2 σ2 env2 S2 (List.getElem?_eq_getElem hlt) x2 R2 hcm
      refine .inr ⟨go,fun σ5 H5 => ∃ μ5 env5 S5,Ext μ1 H1 μ5 H5 ∧ Rep Γ μ5 σ5 H5 env5 S5 ∧ loop w gg.sem f (ds.drop (i + 1)) env5 S5 = some (fl,env',S'),fun σ5 H5 ⟨μ5,env5,S5,x5,R5,e5⟩ => ⟨ds.length - (i + 1),by omega,μ5,env5,S5,rfl,hlt,x5,R5,e5⟩,fun x H3 y => ?_⟩
      obtain ⟨sm,rx⟩ := yl x H3 y
      obtain ⟨R3,x3⟩ := R2.grow sm
      refine gg.run X.K R3 rx e3 fun σ3 R3' => ?_
      refine ⟨Γ,μ2,env3,S2,fl4,env4,S4,hK,R3',e4,fun μ4 σ4 H4 x4 R4 => ?_⟩
      have x14 := x2.trans (x3.trans x4)
      dsimp only at el
      cases fl4 with
      | nx => exact ⟨μ4,env4,S4,x14,R4,el⟩
      | cnt => exact ⟨μ4,env4,S4,x14,R4,el⟩
      | brk => cases el; exact q μ4 σ4 H4 (x1.trans x14) R4
      | ret d => cases el; exact q μ4 σ4 H4 (x1.trans x14) R4
    · rw [if_neg hcm] at el; cases el
  · have hi':i = ds.length := by omega
    subst hi'
    rw [List.drop_length] at el
    unfold loop at el
    by_cases hcm:calm w S2
    · rw [if_pos hcm] at el
      cases el
      exact .inl ⟨ok.stop μ2 H2 σ2 _ _ x2 R2 hcm,q μ2 σ2 H2 (x1.trans x2) R2⟩
    · rw [if_neg hcm] at el; cases el⟩
end
end VS
end
section
set_option Elab.async false
set_option maxRecDepth 10000
set_option linter.all false
namespace VS
open PySem PySem.Spec L2
theorem Rep.cap {Γ:Fr} {μ:Mu} {σ:St} {H:Hp} {env:Env} {S:Store} (R:Rep Γ μ σ H env S) (k:Nat) (caps:List Nat):Rep Γ μ (capS k caps σ) H (capE k caps env) S := by
  refine ⟨fun i d h => ?_,?_,R.sto,R.liv,R.inj,R.slen,R.ent,R.new⟩
  · unfold capE at h
    by_cases hi:i < k
    · rw [List.getElem?_append_left (by simpa using hi),List.getElem?_replicate,if_pos hi] at h
      cases h
    · rw [List.getElem?_append_right (by simpa using hi),List.length_replicate,List.getElem?_map] at h
      cases e:caps[i - k]? with
      | none => rw [e] at h; cases h
      | some a =>
        rw [e] at h
        have h':(env[a]?).join = some d := Option.some.inj h
        have h2:env[a]? = some (some d) := by
          cases q:env[a]? with
          | none => rw [q] at h'; cases h'
          | some o => rw [q] at h'; exact congrArg some h'
        obtain ⟨v,h3,h4⟩ := R.vals a d h2
        refine ⟨v,?_,h4⟩
        unfold capS
        rw [List.getElem?_append_right (by simpa using hi),List.length_replicate,List.getElem?_map,e]
        show some (σ[a]?).join = some (some v)
        rw [h3]; rfl
  · unfold capS capE
    rw [List.length_append,List.length_append,List.length_map,List.length_map,List.length_replicate,List.length_replicate]

section
variable {X:Cx}
theorem Joo {K:PySem.W.Frag} {k:Nat} {caps:List Nat} {it:ISem} {p:Pat} {t:TSem} {f:ESem} {σ:St} {H:Hp} {Q:VK} (h:∃ Γ μ env S ys S',Γ.K = K ∧ Rep Γ μ σ H env S ∧ Jcg k caps it p.sem t f env S = some (ys,S') ∧
    ∀ xs μ' H',Ext μ H μ' H' → Rep Γ μ' σ H' env S' → VRs Γ μ' H' xs ys → ∀ q,H' q = none → Q (.ref q) (upd H' q (.lst xs))):Jx3 k caps (wpI K it) (p.raw K) (wpT K t) (wpE K f) σ H Q := by
  obtain ⟨Γ,μ,env,S,ys,S',hK,R,e,q⟩ := h
  obtain ⟨⟨⟨ds,w⟩,S1⟩,e1,e⟩ := bind_some e
  refine ⟨Γ,μ,env,S,ds,w,S1,hK,R,e1,fun J μ1 H1 x1 R1 ok => ?_⟩
  refine ⟨fun i m zs H2 => ∃ μ2 S2 dzs,m = ds.length - i ∧ i ≤ ds.length ∧ Ext μ1 H1 μ2 H2 ∧ Rep Γ μ2 σ H2 env S2 ∧ VRs Γ μ2 H2 zs dzs ∧ Jfq w (capE k caps env) p.sem t f (ds.drop i) dzs S2 = some (ys,S'),
    ⟨ds.length,μ1,S1,[],rfl,Nat.zero_le _,Ext.refl _ _,R1,.nil,by rw [List.drop_zero]; exact e⟩,?_⟩
  rintro i m zs H2 ⟨μ2,S2,dzs,rfl,hi,x2,R2,rz,el⟩
  by_cases hlt:i < ds.length
  · rw [List.drop_eq_getElem_cons hlt] at el
    unfold Jfq at el
    by_cases hcm:calm w S2 ∧ dzs.length ≤ 1000000
    · rw [if_pos hcm] at el
      obtain ⟨env3,e3,el⟩ := bind_some el
      obtain ⟨⟨b,S4⟩,e4,el⟩ := bind_some el
      have R2c := R2.cap k caps
      obtain ⟨go,yl⟩ := ok.step i ds[i] μ2 H2 _ _ S2 (List.getElem?_eq_getElem hlt) x2 R2c hcm.1
      refine .inr ⟨go,by rw [rz.length]; exact big hcm.2,fun x H3 y => ?_⟩
      obtain ⟨sm,rx⟩ := yl x H3 y
      obtain ⟨R3,x3⟩ := R2c.grow sm
      obtain ⟨R3o,_⟩ := R2.grow sm
      refine p.run K R3 rx e3 fun σ3 R3' => ?_
      refine ⟨Γ,μ2,env3,S2,b,S4,hK,R3',e4,fun μ4 H4 x4 R4 => ?_⟩
      dsimp only at el
      by_cases hb:b = true
      · rw [if_pos hb] at el ⊢
        obtain ⟨⟨d5,S5⟩,e5,el⟩ := bind_some el
        refine ⟨Γ,μ4,env3,S4,d5,S5,hK,R4,e5,fun v μ5 H5 x5 R5 r5 => ?_⟩
        exact ⟨ds.length - (i + 1),by omega,μ5,S5,dzs ++ [d5],rfl,hlt,x2.trans (x3.trans (x4.trans x5)),R3o.back (x4.trans x5) R5,((rz.ext (x3.trans (x4.trans x5)))).append (.cons r5 .nil),el⟩
      · rw [if_neg hb] at el ⊢
        exact ⟨ds.length - (i + 1),by omega,μ4,S4,dzs,rfl,hlt,x2.trans (x3.trans x4),R3o.back x4 R4,rz.ext (x3.trans x4),el⟩
    · rw [if_neg hcm] at el; cases el
  · have hi':i = ds.length := by omega
    subst hi'
    rw [List.drop_length] at el
    unfold Jfq at el
    by_cases hcm:calm w S2 ∧ dzs.length ≤ 1000000
    · rw [if_pos hcm] at el
      cases el
      exact .inl ⟨ok.stop μ2 H2 σ env _ x2 R2 hcm.1,fun p hp => q zs μ2 H2 (x1.trans x2) R2 rz p hp⟩
    · rw [if_neg hcm] at el; cases el

structure JC (X:Cx) (N2:List Str) (scope:Scope) (tg:Expr) (ifs:List Expr) (elt:Expr) (p:Pat) (t:TSem) (f:ESem):Prop where
  all:∀ (cl:List (Str × Addr)) (C:Addr) (s:Shared) (H:Hp) (ex:List Addr),JG (Jda X N2 scope cl C s H ex) tg p ∧ JTs (Jda X N2 scope cl C s H ex) ifs t ∧ JE (Jda X N2 scope cl C s H ex) elt f
theorem Jcl {elt tg iter:Expr} {ifs:List Expr} {scope:Scope} {pos:Pos} {N2:List Str} {k:Nat} {caps:List Nat} {it:ISem} {p:Pat} {t:TSem} {f:ESem}
    (hc:X.calm = true) (hS:Jcn X.env.scope X.N N2 k caps scope) (hlow:p.low k = true) (hi:JI X tg iter it) (hb:JC X N2 scope tg ifs elt p t f)
    (hs:∀ x,foldedSetIterable iter X.env x = pure x := by intro _; rfl):JE X (.ListComp elt [⟨tg,iter,ifs,0⟩] scope pos) (eFrz (Jcg k caps it p.sem t f)) :=
  ⟨PE.imp (Jsz hc hS (p.Jwf X.K hlow) hi.pi (fun cl C s H ex => let ⟨a,b,c⟩ := hb.all cl C s H ex; ⟨a.pg,b.pt,c.pe⟩) hs) fun σ H Q h => by
    obtain ⟨Γ,μ,env,S,d,S',hK,R,e,q⟩ := h
    obtain ⟨⟨ys,S1⟩,e1,e⟩ := bind_some e
    cases e
    refine Joo ⟨Γ,μ,env,S,ys,S1,hK,R,e1,fun xs μ1 H1 x1 R1 r1 z hz => ?_⟩
    obtain ⟨R2,x2⟩ := R1.grow (Jby hz (.lst xs))
    exact q _ μ1 _ (x1.trans x2) R2 (.lst (R1.ok hz true) (R1.dead hz) Jbj (r1.ext x2))⟩
theorem Jyd {Γ:Fr} {μ:Mu} {H:Hp} {p:Addr} {n:Nat} (h:n = μ.length):VR Γ (μ ++ [some p]) H (.ref p) (.ref n) := by
  subst h
  refine .ref (by rw [List.length_append]; simp) fun a h => ?_
  simp at h
  rw [h]
theorem Jie {elt tg iter:Expr} {ifs:List Expr} {scope:Scope} {pos py spos:Pos} {N2:List Str} {k i:Nat} {y:Str} {caps:List Nat} {it:ISem} {p:Pat} {t:TSem} {f:ESem}
    (hc:X.calm = true) (hN:X.N.Nodup) (hS:Jcn X.env.scope X.N N2 k caps scope) (hlow:p.low k = true) (hi:JI X tg iter it) (hb:JC X N2 scope tg ifs elt p t f) (hi':X.N[i]? = some y := by rfl)
    (hx:X.env.scope.names.lookup y = some .local := by rfl) (hsw:swapsWith (.ListComp elt [⟨tg,iter,ifs,0⟩] scope pos) (some (.Name y py)) spos.line X.env = pure true := by rfl)
    (hs:∀ x,foldedSetIterable iter X.env x = pure x := by intro _; rfl):JS X (.Assign [.Name y py] (.ListComp elt [⟨tg,iter,ifs,0⟩] scope pos) spos) (sSet i (eFrz (Jcg k caps it p.sem t f))) :=
  ⟨PS.imp (Jym hc hN hi' hS (p.Jwf X.K hlow) hi.pi (fun cl C s H ex => let ⟨a,b,c⟩ := hb.all cl C s H ex; ⟨a.pg,b.pt,c.pe⟩) hx hsw hs) fun E σ H h => by
    obtain ⟨Γ,μ,env,S,fl,env',S',hK,R,e,q⟩ := h
    obtain ⟨⟨d,S1⟩,e1,e⟩ := bind_some e
    cases e
    obtain ⟨⟨ys,S2⟩,e2,e1⟩ := bind_some e1
    cases e1
    refine Joo ⟨Γ,μ,env,S,ys,_,hK,R,e2,fun xs μ1 H1 x1 R1 r1 z hz => ?_⟩
    obtain ⟨R2,x2⟩ := R1.grow (Jby hz (.lst xs))
    exact q μ1 _ _ (x1.trans x2) (R2.setv i (.lst (R1.ok hz true) (R1.dead hz) Jbj (r1.ext x2)))⟩
end

def listOf (S:Store):D → Option (List D)
  | .lst _ ds => some ds
  | .ref i => (S[i]?).join
  | _ => none
def Jax (S:Store):D → Option (List D)
  | .tup ds => some ds
  | .scr ns => some (ns.map .int)
  | d => listOf S d
def idOf (ds:List D):D → List (Nat × List D)
  | .ref i => [(i,ds)]
  | _ => []
section
variable {Γ:Fr} {μ:Mu} {σ:St} {H:Hp} {env:Env} {S:Store} {v:V} {d:D} {ds:List D}
theorem join_some {α:Type} {a:Option (Option α)} {b:α} (h:a.join = some b):a = some (some b) := by
  cases a with
  | none => cases h
  | some o => exact congrArg some h
theorem VR.list (R:Rep Γ μ σ H env S) (r:VR Γ μ H v d) (h:listOf S d = some ds):∃ a xs,v = .ref a ∧ H a = some (.lst xs) ∧ VRs Γ μ H xs ds := by
  cases r with
  | lst o n hb rs => cases h; exact ⟨_,_,rfl,hb,rs⟩
  | @ref i v hi f =>
    obtain ⟨a,xs,h1,h2,h3⟩ := R.sto i ds (join_some h)
    exact ⟨a,xs,f a h1,h2,h3⟩
  | _ => cases h
theorem VR.seq (hK:Γ.K = K) (R:Rep Γ μ σ H env S) (r:VR Γ μ H v d) (h:Jax S d = some ds):∃ a xs,v = .ref a ∧ (SqL K H a xs ∨ SqT K H a xs) ∧ VRs Γ μ H xs ds := by
  subst hK
  cases d with
  | tup es => cases r with | tup hb rs => cases h; exact ⟨_,_,rfl,.inr (SqT.of hb),rs⟩
  | scr ns =>
    cases h
    cases r with
    | scrK hk => exact ⟨_,_,rfl,.inl (hk H),VRs.ints ns⟩
    | scrR n hb => exact ⟨_,_,rfl,.inl (.inl (.inr ⟨_,hb⟩)),VRs.ints ns⟩
  | lst m es => obtain ⟨a,xs,e1,e2,e3⟩ := VR.list R r h; exact ⟨a,xs,e1,.inl (SqL.of e2),e3⟩
  | ref i => obtain ⟨a,xs,e1,e2,e3⟩ := VR.list R r h; exact ⟨a,xs,e1,.inl (SqL.of e2),e3⟩
  | _ => cases h
end

def iSeq (a:ESem):ISem := fun env S => (a env S).bind fun p => (Jax p.2 p.1).map fun ds => ((ds,idOf ds p.1),p.2)
section
variable {X:Cx} {tg:Expr}
def JDb (K:PySem.W.Frag) (tl:TE):TI := fun σ H R => tl σ H fun x H1 => ∃ a,x = .ref a ∧ (((∃ xs,SqL K H1 a xs) ∧ R (Itl K a) H1) ∨ ((∃ xs,SqT K H1 a xs) ∧ R (Itt K a) H1))
theorem JA4 {l:Expr} {tl:TE} (hl:PE X l tl):PI X tg l (JDb X.K tl) := by
  intro pins s σ H R I h
  refine thn (hl pins s σ H _ I h) fun v s1 ⟨x,H1,I1,r1,q1⟩ => ?_
  obtain ⟨a,e,⟨⟨xs,hq⟩,q⟩ | ⟨⟨xs,hq⟩,q⟩⟩ := q1
  · subst e
    cases r1
    obtain ⟨its,rv,p,hz⟩ := I1.list hq
    refine wpAny_pyIter_list p.isList ?_
    refine ⟨s1.heap.objs.size,[s1.heap.objs.size],_,_,H1,rfl,I1.kept (t' := s1.toks) fun b o e => Heap.get?_push_of_some _ e,Jr3 a _,⟨_,Heap.get?_push_size _ rfl,rfl,rfl⟩,fun b hb => ?_,q⟩
    have e:b = s1.heap.objs.size := by simpa using hb
    subst e
    exact I1.fpOk (Nat.le_refl _) (I1.hok.fresh (Nat.le_refl _))
  · subst e
    cases r1
    obtain ⟨its,rv,p,hz⟩ := I1.tuple hq
    refine wpAny_pyIter_tuple (show s1.heap.IsTuple a its.toArray from p) ?_
    refine ⟨s1.heap.objs.size,[s1.heap.objs.size],_,_,H1,rfl,I1.kept (t' := s1.toks) fun b o e => Heap.get?_push_of_some _ e,Jra a _,⟨_,Heap.get?_push_size _ rfl,rfl,rfl⟩,fun b hb => ?_,q⟩
    have e:b = s1.heap.objs.size := by simpa using hb
    subst e
    exact I1.fpOk (Nat.le_refl _) (I1.hok.fresh (Nat.le_refl _))
theorem Jsf {d:D} {ds:List D} {S S':Store} (h:Jax S d = some ds) (c:calm (idOf ds d) S'):Jax S' d = some ds := by
  cases d with
  | ref i =>
    have c':S'[i]? = some (some ds) := c (i,ds) (List.mem_singleton.mpr rfl)
    show (S'[i]?).join = some ds
    rw [c']; rfl
  | _ => exact h
theorem VR.seqL {K:PySem.W.Frag} {Γ:Fr} {μ:Mu} {σ:St} {H:Hp} {env:Env} {S:Store} {v:V} {d:D} {ds:List D} (hK:Γ.K = K) (R:Rep Γ μ σ H env S) (r:VR Γ μ H v d) (h:Jax S d = some ds):(∃ es,d = .tup es) ∨ ∃ a xs,v = .ref a ∧ SqL K H a xs ∧ VRs Γ μ H xs ds := by
  subst hK
  cases d with
  | tup es => exact .inl ⟨es,rfl⟩
  | scr ns =>
    cases h
    cases r with
    | scrK hk => exact .inr ⟨_,_,rfl,hk H,VRs.ints ns⟩
    | scrR n hb => exact .inr ⟨_,_,rfl,.inl (.inr ⟨_,hb⟩),VRs.ints ns⟩
  | lst m es => obtain ⟨a,xs,e1,e2,e3⟩ := VR.list R r h; exact .inr ⟨a,xs,e1,SqL.of e2,e3⟩
  | ref i => obtain ⟨a,xs,e1,e2,e3⟩ := VR.list R r h; exact .inr ⟨a,xs,e1,SqL.of e2,e3⟩
  | _ => cases h
theorem Jzi {Γ:Fr} {μ:Mu} {H:Hp} {a:Addr} {ds:List D} {K:PySem.W.Frag} {w:List (Nat × List D)} (hr:∀ μ' H' σ' env' S',Ext μ H μ' H' → Rep Γ μ' σ' H' env' S' → calm w S' → ∃ xs,SqL K H' a xs ∧ VRs Γ μ' H' xs ds):ItOk Γ μ H (Itl K a) ds w := by
  refine ⟨fun i d μ' H' σ' env' S' hi x R c => ?_,fun μ' H' σ' env' S' x R c => ?_⟩
  · obtain ⟨xs,h1,h2⟩ := hr μ' H' σ' env' S' x R c
    obtain ⟨y,e1,e2⟩ := h2.get hi
    refine ⟨⟨xs,y,h1,e1⟩,fun z H'' yl => ?_⟩
    obtain ⟨e,f⟩ := yl
    subst e
    have := f xs h1
    rw [e1] at this; cases this
    exact ⟨Same.refl _,e2⟩
  · obtain ⟨xs,h1,h2⟩ := hr μ' H' σ' env' S' x R c
    exact ⟨xs,h1,by rw [h2.length]; exact Nat.le_refl _⟩
theorem Jw8 {Γ:Fr} {μ:Mu} {H:Hp} {a:Addr} {ds:List D} {K:PySem.W.Frag} {w:List (Nat × List D)} (hr:∀ μ' H' σ' env' S',Ext μ H μ' H' → Rep Γ μ' σ' H' env' S' → calm w S' → ∃ xs,SqT K H' a xs ∧ VRs Γ μ' H' xs ds):ItOk Γ μ H (Itt K a) ds w := by
  refine ⟨fun i d μ' H' σ' env' S' hi x R c => ?_,fun μ' H' σ' env' S' x R c => ?_⟩
  · obtain ⟨xs,h1,h2⟩ := hr μ' H' σ' env' S' x R c
    obtain ⟨y,e1,e2⟩ := h2.get hi
    refine ⟨⟨xs,y,h1,e1⟩,fun z H'' yl => ?_⟩
    obtain ⟨e,f⟩ := yl
    subst e
    have := f xs h1
    rw [e1] at this; cases this
    exact ⟨Same.refl _,e2⟩
  · obtain ⟨xs,h1,h2⟩ := hr μ' H' σ' env' S' x R c
    exact ⟨xs,h1,by rw [h2.length]; exact Nat.le_refl _⟩
theorem Jdz {l:Expr} {f:ESem} (hl:JE X l f):JI X tg l (iSeq f) := ⟨PI.imp (JA4 hl.pe) fun σ H Q h => by
  obtain ⟨Γ,μ,env,S,ds,w,S',hK,R,e,q⟩ := h
  obtain ⟨⟨d,S1⟩,e1,e⟩ := bind_some e
  obtain ⟨ds',e2,e⟩ := map_some e
  cases e
  refine ⟨Γ,μ,env,S,d,S1,hK,R,e1,fun v μ1 H1 x1 R1 r1 => ?_⟩
  rcases VR.seqL hK R1 r1 e2 with ⟨es,rfl⟩ | ⟨a,xs,rfl,hq,rs⟩
  · cases r1 with
    | @tup a xs _ hb rs =>
      refine ⟨a,rfl,.inr ⟨⟨xs,SqT.of hb⟩,q _ μ1 H1 x1 R1 (Jw8 fun μ' H' σ' env' S' x' R' c => ?_)⟩⟩
      have e2':es = ds := Option.some.inj e2
      subst e2'
      exact ⟨xs,SqT.of (x'.tups _ _ hb),rs.ext x'⟩
  · by_cases ht:∃ es,d = .tup es
    · obtain ⟨es,rfl⟩ := ht
      cases r1 with
      | @tup b ys _ hb rs' =>
        refine ⟨a,rfl,.inr ⟨⟨ys,SqT.of hb⟩,q _ μ1 H1 x1 R1 (Jw8 fun μ' H' σ' env' S' x' R' c => ?_)⟩⟩
        have e2':es = ds := Option.some.inj e2
        subst e2'
        exact ⟨ys,SqT.of (x'.tups _ _ hb),rs'.ext x'⟩
    · refine ⟨a,rfl,.inl ⟨⟨xs,hq⟩,q _ μ1 H1 x1 R1 (Jzi fun μ' H' σ' env' S' x' R' c => ?_)⟩⟩
      rcases VR.seqL hK R' (r1.ext x') (Jsf e2 c) with z | ⟨b,ys,e,h1,h2⟩
      · exact absurd z ht
      · cases e
        exact ⟨ys,h1,h2⟩⟩
def upD (lo:Int) (n:Nat):List D := (List.range n).map fun (i:Nat) => .int (lo + i)
theorem Jv1 {Γ:Fr} {μ:Mu} {H:Hp} (lo:Int) (n:Nat):ItOk Γ μ H (Itr lo n) (upD lo n) [] := by
  have len:(upD lo n).length = n := by unfold upD; rw [List.length_map,List.length_range]
  refine ⟨fun i d μ' H' σ' env' S' hi x R c => ?_,fun μ' H' σ' env' S' x R c => ?_⟩
  · have hi':i < n := by rw [← len]; exact (List.getElem?_eq_some_iff.mp hi).1
    refine ⟨hi',fun y H'' yl => ?_⟩
    obtain ⟨e1,e2⟩ := yl
    subst e1 e2
    unfold upD at hi
    rw [List.getElem?_map,List.getElem?_range hi'] at hi
    cases hi
    exact ⟨Same.refl _,.int _⟩
  · show n ≤ (upD lo n).length
    rw [len]; exact Nat.le_refl _
def r62 (j:Int):Prop := -(2 ^ 62) ≤ j ∧ j < 2 ^ 62
instance (j:Int):Decidable (r62 j) := by unfold r62; infer_instance
def Jc0 (a:ASem):ISem := fun env S => (a env S).bind fun p => match p.1 with | [.int j] => if r62 j then some ((upD 0 j.toNat,[]),p.2) else none | _ => none
theorem VRs.one {Γ:Fr} {μ:Mu} {H:Hp} {vs:List V} {d:D} (h:VRs Γ μ H vs [d]):∃ v,vs = [v] ∧ VR Γ μ H v d := by
  cases h with | cons r t => cases t; exact ⟨_,rfl,r⟩
theorem VRs.two {Γ:Fr} {μ:Mu} {H:Hp} {vs:List V} {d e:D} (h:VRs Γ μ H vs [d,e]):∃ v u,vs = [v,u] ∧ VR Γ μ H v d ∧ VR Γ μ H u e := by
  cases h with | cons r t => cases t with | cons r' t => cases t; exact ⟨_,_,rfl,r,r'⟩
theorem Jef {a:Expr} {f:ASem} {p pos:Pos} (hg:Gl X "range") (hm:X.mg "range" = none) (ha:JA X [a] f) (hs:starEach [a] X.env = [(false,eval a X.env)] := by rfl):JI X tg (.Call (.Name "range" p) [a] [] pos) (Jc0 f) :=
  ⟨PI.imp (Jsx hg hm ha.pa hs) fun σ H Q h => by
    obtain ⟨Γ,μ,env,S,ds,w,S',hK,R,e,q⟩ := h
    obtain ⟨⟨d,S1⟩,e1,e⟩ := bind_some e
    refine ⟨Γ,μ,env,S,d,S1,hK,R,e1,fun v μ1 H1 x1 R1 r1 => ?_⟩
    dsimp only at e
    split at e
    · rename_i j
      by_cases hj:r62 j
      · rw [if_pos hj] at e
        cases e
        obtain ⟨v,rfl,r⟩ := r1.one
        cases r
        exact ⟨j,rfl,hj.1,hj.2,q _ μ1 H1 x1 R1 (Jv1 0 _)⟩
      · rw [if_neg hj] at e; cases e
    · cases e⟩
end
end VS
end
section
set_option Elab.async false
set_option maxRecDepth 10000
set_option linter.all false
namespace VS
open PySem PySem.Spec L2
section
variable {X:Cx} {tg:Expr}
def zipD:List D → List D → List D
  | x :: xs,y :: ys => .tup [x,y] :: zipD xs ys
  | _,_ => []
theorem Jpx:∀ {xs ys:List D} {i:Nat} {d:D},(zipD xs ys)[i]? = some d → ∃ x y,xs[i]? = some x ∧ ys[i]? = some y ∧ d = .tup [x,y]
  | [],_,_,_,h => by simp [zipD] at h
  | _ :: _,[],_,_,h => by simp [zipD] at h
  | x :: xs,y :: ys,0,d,h => by simp [zipD] at h; exact ⟨x,y,rfl,rfl,h.symm⟩
  | x :: xs,y :: ys,i + 1,d,h => by
    simp [zipD] at h
    obtain ⟨a,b,h1,h2,h3⟩ := Jpx h
    exact ⟨a,b,by simpa using h1,by simpa using h2,h3⟩
theorem Jpw:∀ (xs ys:List D),((zipD xs ys).length = xs.length ∧ xs.length ≤ ys.length) ∨ ((zipD xs ys).length < xs.length ∧ (zipD xs ys).length = ys.length)
  | [],_ => .inl ⟨rfl,Nat.zero_le _⟩
  | _ :: _,[] => .inr ⟨by simp [zipD],rfl⟩
  | x :: xs,y :: ys => by
    rcases Jpw xs ys with ⟨h1,h2⟩ | ⟨h1,h2⟩
    · left; simp [zipD]; omega
    · right; simp [zipD]; omega
def Jrw (a:ASem):ISem := fun env S => (a env S).bind fun p => match p.1 with
  | [.tup xs,.tup ys] => some ((zipD xs ys,[]),p.2)
  | [x,y] => (listOf p.2 x).bind fun xs => (listOf p.2 y).bind fun ys => some ((zipD xs ys,idOf xs x ++ idOf ys y),p.2)
  | _ => none
theorem Jhm {d:D} {ds:List D} {S S':Store} (h:listOf S d = some ds) (c:calm (idOf ds d) S'):listOf S' d = some ds := by
  cases d with
  | ref i =>
    have c':S'[i]? = some (some ds) := c (i,ds) (List.mem_singleton.mpr rfl)
    show (S'[i]?).join = some ds
    rw [c']; rfl
  | _ => exact h
theorem Jw7 {Γ:Fr} {μ:Mu} {H:Hp} {L:Bool} {a b:Addr} {xs ys:List D} {w:List (Nat × List D)} (hr:∀ μ' H' σ' env' S',Ext μ H μ' H' → Rep Γ μ' σ' H' env' S' → calm w S' → ∃ us vs,H' a = some (HB L us) ∧ VRs Γ μ' H' us xs ∧ H' b = some (HB L vs) ∧ VRs Γ μ' H' vs ys) :
    ItOk Γ μ H (Itz L a b) (zipD xs ys) w := by
  refine ⟨fun i d μ' H' σ' env' S' hi x R c => ?_,fun μ' H' σ' env' S' x R c => ?_⟩
  · obtain ⟨us,vs,h1,h2,h3,h4⟩ := hr μ' H' σ' env' S' x R c
    obtain ⟨p,q,e1,e2,e3⟩ := Jpx hi
    obtain ⟨u,f1,f2⟩ := h2.get e1
    obtain ⟨v,g1,g2⟩ := h4.get e2
    refine ⟨⟨us,vs,u,v,h1,h3,f1,g1⟩,fun z H'' yl => ?_⟩
    obtain ⟨t,u',v',ht,rfl,rfl,k1,k2⟩ := yl
    have k1' := k1 us h1
    have k2' := k2 vs h3
    rw [f1] at k1'; cases k1'
    rw [g1] at k2'; cases k2'
    subst e3
    have sm := Jby ht (.tup [u,v])
    obtain ⟨_,x2⟩ := R.grow sm
    exact ⟨sm,.tup Jbj (.cons (f2.ext x2) (.cons (g2.ext x2) .nil))⟩
  · obtain ⟨us,vs,h1,h2,h3,h4⟩ := hr μ' H' σ' env' S' x R c
    refine ⟨us,vs,h1,h3,?_⟩
    rw [h2.length,h4.length]
    rcases Jpw xs ys with z | z
    · exact .inl z.1
    · exact .inr z
theorem PI.or {e:Expr} {t u:TI} (h:PI X tg e t) (k:PI X tg e u):PI X tg e (fun σ H R => t σ H R ∨ u σ H R) := fun pins s σ H R I q => q.elim (fun z => h pins s σ H R I z) fun z => k pins s σ H R I z
theorem Jw5 {a b:Expr} {f:ASem} {p pos:Pos} {elts:List Expr} {x1:Nat} {tpos:Pos} (hg:Gl X "zip") (hm:X.mg "zip" = none) (ha:JA X [a,b] f) (hs:starEach [a,b] X.env = [(false,eval a X.env),(false,eval b X.env)] := by rfl) (hs2:starEach [b] X.env = [(false,eval b X.env)] := by rfl) :
    JI X (.Tuple elts x1 tpos) (.Call (.Name "zip" p) [a,b] [] pos) (Jrw f) :=
  ⟨PI.imp (PI.or (Jwz true hg hm ha.pa hs hs2) (Jwz false hg hm ha.pa hs hs2)) fun σ H Q h => by
    obtain ⟨Γ,μ,env,S,ds,w,S',hK,R,e,q⟩ := h
    obtain ⟨⟨d,S1⟩,e1,e⟩ := bind_some e
    dsimp only at e
    split at e
    · rename_i xs ys
      cases e
      refine .inr ⟨Γ,μ,env,S,_,_,hK,R,e1,fun v μ1 H1 x1 R1 r1 => ?_⟩
      obtain ⟨u,v,rfl,r,r'⟩ := r1.two
      cases r with
      | @tup a us _ ha ra =>
        cases r' with
        | @tup b vs _ hb rb =>
          exact ⟨a,b,us,vs,rfl,ha,hb,q _ μ1 H1 x1 R1 (Jw7 fun μ' H' σ' env' S' x' R' c => ⟨us,vs,x'.tups _ _ ha,ra.ext x',x'.tups _ _ hb,rb.ext x'⟩)⟩
    · rename_i x y _
      obtain ⟨xs,e2,e⟩ := bind_some e
      obtain ⟨ys,e3,e⟩ := bind_some e
      cases e
      refine .inl ⟨Γ,μ,env,S,_,_,hK,R,e1,fun v μ1 H1 x1 R1 r1 => ?_⟩
      obtain ⟨u,v,rfl,r,r'⟩ := r1.two
      obtain ⟨a,us,rfl,ha,ra⟩ := VR.list R1 r e2
      obtain ⟨b,vs,rfl,hb,rb⟩ := VR.list R1 r' e3
      refine ⟨a,b,us,vs,rfl,ha,hb,q _ μ1 H1 x1 R1 (Jw7 fun μ' H' σ' env' S' x' R' c => ?_)⟩
      obtain ⟨a',us',e4,ha',ra'⟩ := VR.list R' (r.ext x') (Jhm e2 fun p hp => c p (List.mem_append_left _ hp))
      obtain ⟨b',vs',e5,hb',rb'⟩ := VR.list R' (r'.ext x') (Jhm e3 fun p hp => c p (List.mem_append_right _ hp))
      cases e4
      cases e5
      exact ⟨us',vs',ha',ra',hb',rb'⟩
    · cases e⟩
def Jj3 (n:Nat):List D → List D
  | [] => []
  | x :: xs => .tup [.int n,x] :: Jj3 (n + 1) xs
theorem Jn5:∀ {xs:List D} {n i:Nat} {d:D},(Jj3 n xs)[i]? = some d → ∃ x,xs[i]? = some x ∧ d = .tup [.int ((n + i:Nat):Int),x]
  | [],_,_,_,h => by simp [Jj3] at h
  | x :: xs,n,0,d,h => by simp [Jj3] at h; exact ⟨x,rfl,h.symm⟩
  | x :: xs,n,i + 1,d,h => by
    simp [Jj3] at h
    obtain ⟨y,h1,h2⟩ := Jn5 h
    exact ⟨y,by simpa using h1,by rw [h2,show n + 1 + i = n + (i + 1) by omega]⟩
theorem Jn4:∀ (xs:List D) (n:Nat),(Jj3 n xs).length = xs.length
  | [],_ => rfl
  | _ :: xs,n => by rw [Jj3,List.length_cons,List.length_cons,Jn4 xs]
def Jq0 (a:ASem):ISem := fun env S => (a env S).bind fun p => match p.1 with
  | [x] => (listOf p.2 x).bind fun xs => some ((Jj3 0 xs,idOf xs x),p.2)
  | _ => none
theorem Jzf {a:Expr} {f:ASem} {p pos:Pos} {elts:List Expr} {x1:Nat} {tpos:Pos} (hg:Gl X "enumerate") (hm:X.mg "enumerate" = none) (ha:JA X [a] f) (hs:starEach [a] X.env = [(false,eval a X.env)] := by rfl) :
    JI X (.Tuple elts x1 tpos) (.Call (.Name "enumerate" p) [a] [] pos) (Jq0 f) :=
  ⟨PI.imp (Jyq hg hm ha.pa hs) fun σ H Q h => by
    obtain ⟨Γ,μ,env,S,ds,w,S',hK,R,e,q⟩ := h
    obtain ⟨⟨d,S1⟩,e1,e⟩ := bind_some e
    dsimp only at e
    split at e
    · rename_i x
      obtain ⟨xs,e2,e⟩ := bind_some e
      cases e
      refine ⟨Γ,μ,env,S,_,_,hK,R,e1,fun v μ1 H1 x1 R1 r1 => ?_⟩
      obtain ⟨u,rfl,r⟩ := r1.one
      obtain ⟨a,us,rfl,ha,ra⟩ := VR.list R1 r e2
      refine ⟨a,rfl,⟨us,SqL.of ha⟩,q _ μ1 H1 x1 R1 ⟨fun i d μ' H' σ' env' S' hi x' R' c => ?_,fun μ' H' σ' env' S' x' R' c => ?_⟩⟩
      · obtain ⟨a',us',e4,ha',ra'⟩ := VR.list R' (r.ext x') (Jhm e2 c)
        cases e4
        obtain ⟨y,f1,rfl⟩ := Jn5 hi
        obtain ⟨z,g1,g2⟩ := ra'.get f1
        refine ⟨⟨us',z,SqL.of ha',g1⟩,fun y' H'' yl => ?_⟩
        obtain ⟨t,z',ht,rfl,rfl,k⟩ := yl
        have k' := k us' (SqL.of ha')
        rw [g1] at k'; cases k'
        have sm := Jby ht (.tup [.int i,z])
        obtain ⟨_,x2⟩ := R'.grow sm
        refine ⟨sm,.tup Jbj (.cons ?_ (.cons (g2.ext x2) .nil))⟩
        rw [Nat.zero_add]
        exact .int _
      · obtain ⟨a',us',e4,ha',ra'⟩ := VR.list R' (r.ext x') (Jhm e2 c)
        cases e4
        exact ⟨us',SqL.of ha',by rw [ra'.length,Jn4]; exact Nat.le_refl _⟩
    · cases e⟩

def SemM (K:PySem.W.Frag) (r:V → List V → Hp → VK → Prop) (g:Store → D → List D → Option (D × Store)):Prop := ∀ (Γ:Fr) (μ:Mu) (σ:St) (H:Hp) (env:Env) (S:Store) (x:V) (xs:List V) (dx:D) (ds:List D) (d:D) (S':Store),Γ.K = K → Rep Γ μ σ H env S → VR Γ μ H x dx → VRs Γ μ H xs ds → g S dx ds = some (d,S') →
  ∀ Q:VK,(∀ v μ' H',Ext μ H μ' H' → Rep Γ μ' σ H' env S' → VR Γ μ' H' v d → Q v H') → r x xs H Q
def Jn8 (g:Store → D → List D → Option (D × Store)) (o:ESem) (a:ASem):ESem := fun env S => (o env S).bind fun p => if (listOf p.2 p.1).isSome then (a env p.2).bind fun q => g q.2 p.1 q.1 else none
theorem Jxv {K:PySem.W.Frag} {r:V → List V → Hp → VK → Prop} {g:Store → D → List D → Option (D × Store)} {o:ESem} {a:ASem} (hs:SemM K r g) {σ:St} {H:Hp} {Q:VK} (h:wpE K (Jn8 g o a) σ H Q):tBM K "list" r (wpE K o) (wpA K a) σ H Q := by
  obtain ⟨Γ,μ,env,S,d,S',hK,R,e,q⟩ := h
  obtain ⟨⟨x,S1⟩,e1,e⟩ := bind_some e
  refine ⟨Γ,μ,env,S,x,S1,hK,R,e1,fun v1 μ1 H1 x1 R1 r1 => ?_⟩
  dsimp only at e
  by_cases hl:(listOf S1 x).isSome = true
  · rw [if_pos hl] at e
    obtain ⟨⟨ds,S2⟩,e2,e⟩ := bind_some e
    obtain ⟨xs,hx⟩ := Option.isSome_iff_exists.mp hl
    obtain ⟨b,us,rfl,hb,rb⟩ := VR.list R1 r1 hx
    refine ⟨.inl ⟨rfl,us,SqL.of hb⟩,Γ,μ1,env,S1,ds,S2,hK,R1,e2,fun vs μ2 H2 x2 R2 r2 => ?_⟩
    exact hs Γ μ2 σ H2 env S2 _ vs x ds d S' hK R2 (r1.ext x2) r2 e Q fun v μ' H' x' R' rv => q v μ' H' (x1.trans (x2.trans x')) R' rv
  · rw [if_neg hl] at e; cases e
variable {o e:Expr} {es:List Expr} {fo:ESem} {fa:ASem} {name:Str} {apos cpos:Pos} {id:String} {r:V → List V → Hp → VK → Prop} {g:Store → D → List D → Option (D × Store)}
theorem Jmh (pa:PlainAttrs "list") (slot:Slot "list" name id) (hty:typeOf (.builtin id) = pure (.type "method_descriptor")) (hm:MtR X id r) (hsm:SemM X.K r g) (ho:JE X o fo) (ha:JA X (e :: es) fa)
    (hbase:attributeBase o name X.env (eval o X.env) = eval o X.env := by rfl)
    (hfew:((backTo cpos (starEach (e :: es) X.env)).all (fun x => !x.1) && (backToKw cpos (keywordEach [] X.env)).all (fun x => x.1.isSome)
      && decide ((e :: es).length + ([]:List Keyword).length + (if ([]:List Keyword).isEmpty then 0 else 1) < 30)) = true := by rfl)
    (hline:(apos.endLine == cpos.line) = true := by rfl) (hs:starEach (e :: es) X.env = (false,eval e X.env) :: starEach es X.env := by rfl) (hplain:(backTo cpos (starEach es X.env)).any (·.1) = false := by rfl) :
    JE X (.Call (.Attribute o name apos) (e :: es) [] cpos) (Jn8 g fo fa) :=
  ⟨PE.imp (JDr pa slot hty hm ho.pe ha.pa hbase hfew hline hs hplain) fun _ _ _ h => Jxv hsm h⟩
theorem VR.refI {Γ:Fr} {μ:Mu} {σ:St} {H:Hp} {env:Env} {S:Store} {v:V} {i:Nat} {ds:List D} (R:Rep Γ μ σ H env S) (r:VR Γ μ H v (.ref i)) (h:S[i]? = some (some ds)):∃ a xs,v = .ref a ∧ μ[i]? = some (some a) ∧ H a = some (.lst xs) ∧ VRs Γ μ H xs ds := by
  cases r with
  | ref hi f =>
    obtain ⟨a,xs,h1,h2,h3⟩ := R.sto i ds h
    exact ⟨a,xs,f a h1,h1,h2,h3⟩
def Je3 (S:Store):D → List D → Option (D × Store)
  | .ref i,[d] => match S[i]? with
    | some (some ds) => if ds.length < 1000000 then some (.non,S.set i (some (ds ++ [d]))) else none
    | _ => none
  | _,_ => none
theorem Jil {K:PySem.W.Frag}:SemM K Jsp Je3 := by
  intro Γ μ σ H env S x xs dx ds d S' hK R rx rs e Q q
  unfold Je3 at e
  split at e
  · rename_i i d1
    split at e
    · rename_i es he
      by_cases hl:es.length < 1000000
      · rw [if_pos hl] at e
        cases e
        obtain ⟨a,us,rfl,h1,h2,h3⟩ := VR.refI R rx he
        obtain ⟨y,rfl,ry⟩ := rs.one
        obtain ⟨R2,x2⟩ := R.put h1 (h3.append (.cons ry .nil))
        exact ⟨a,us,y,rfl,rfl,h2,by rw [h3.length]; exact big (Nat.le_of_lt hl),q _ μ _ x2 R2 .non⟩
      · rw [if_neg hl] at e; cases e
    · cases e
  · cases e
def JD9 (S:Store):D → List D → Option (D × Store)
  | .ref i,[.int k] => match S[i]? with
    | some (some ds) => if -(2 ^ 63) ≤ k ∧ k < 2 ^ 63 then (PySem.seqIndex? k ds.length).bind fun j => (ds[j]?).bind fun d => some (d,S.set i (some (ds.eraseIdx j))) else none
    | _ => none
  | _,_ => none
def Jjq (v o i:ESem):SSem := fun env S => (v env S).bind fun p => (o env p.2).bind fun q => (i env q.2).bind fun r => match q.1,r.1 with
  | .ref j,.int k => (match r.2[j]? with
    | some (some ds) => (ixN ds.length k).bind fun n => some (.nx,env,r.2.set j (some (ds.set n p.1)))
    | _ => none)
  | _,_ => none
theorem Jj8 {a i:Expr} {fv fi:ESem} {pos tpos:Pos} (he:JE X a fv) (ho:JE X o fo) (hi:JE X i fi)
    (ha:∀ v,assign (.Subscript o i tpos) X.env v = (do
      let ov ← holding [v] (eval o X.env)
      let iv ← holding [v,ov] (eval i X.env)
      standAt tpos
      holding [v,ov,iv] (setItem ov iv v)
      release [v,ov,iv] []) := by intro _; rfl)
    (hs:swapsWithSole [.Subscript o i tpos] a pos.line X.env = pure false := by rfl) (hw:swappedStores [.Subscript o i tpos] a X.env = pure none := by rfl)
    (h1:(assignEach [.Subscript o i tpos] X.env).map (·.2) = [assign (.Subscript o i tpos) X.env] := by rfl):JS X (.Assign [.Subscript o i tpos] a pos) (Jjq fv fo fi) :=
  ⟨PS.imp (Jwy he.pe (JA6 ho.pe hi.pe set_list ha) hs hw h1) fun E σ H h => by
    obtain ⟨Γ,μ,env,S,fl,env',S',hK,R,e,q⟩ := h
    obtain ⟨⟨x,S1⟩,e1,e⟩ := bind_some e
    obtain ⟨⟨y,S2⟩,e2,e⟩ := bind_some e
    obtain ⟨⟨z,S3⟩,e3,e⟩ := bind_some e
    refine ⟨Γ,μ,env,S,x,S1,hK,R,e1,fun v1 μ1 H1 x1 R1 r1 => ?_⟩
    refine ⟨Γ,μ1,env,S1,y,S2,hK,R1,e2,fun v2 μ2 H2 x2 R2 r2 => ?_⟩
    refine ⟨Γ,μ2,env,S2,z,S3,hK,R2,e3,fun v3 μ3 H3 x3 R3 r3 => ?_⟩
    dsimp only at e
    split at e
    · rename_i j k
      split at e
      · rename_i ds hd
        obtain ⟨n,e4,e⟩ := bind_some e
        cases e
        obtain ⟨b,us,rfl,g1,g2,g3⟩ := VR.refI R3 (r2.ext x3) hd
        cases r3
        have r1' := r1.ext (x2.trans x3)
        obtain ⟨R4,x4⟩ := R3.put g1 (g3.set r1' n)
        exact ⟨b,us,_,n,rfl,rfl,g2,by rw [g3.length]; exact e4,q μ3 σ _ (x1.trans (x2.trans (x3.trans x4))) R4⟩
      · cases e
    · cases e⟩
end
end VS
end
section
set_option Elab.async false
set_option maxRecDepth 10000
set_option linter.all false
namespace VS
open PySem PySem.Spec L2
mutual
def Ja2:D → Bool
  | .ref _ => false
  | .tup ds => Jav ds
  | .lst _ ds => Jav ds
  | _ => true
def Jav:List D → Bool
  | [] => true
  | d :: r => Ja2 d && Jav r
end
mutual
def Jdl:D → Bool
  | .ref _ => false
  | .lst _ _ => false
  | .scr _ => false
  | .emp => false
  | .tup ds => Jew ds
  | _ => true
def Jew:List D → Bool
  | [] => true
  | d :: r => Jdl d && Jew r
end
mutual
def newD:D → Bool
  | .ref _ => false
  | .lst m ds => m && newL ds
  | .scr _ => false
  | .emp => false
  | .tup ds => newL ds
  | _ => true
def newL:List D → Bool
  | [] => true
  | d :: r => newD d && newL r
end
mutual
def den (k:Nat) (S:Store):D → Option D
  | .tup ds => (denL k S ds).map .tup
  | .lst m ds => (denL k S ds).map (.lst m)
  | .ref i => if i < k then none else match S[i]? with | some (some ds) => if Jav ds = true then some (.lst true ds) else none | _ => none
  | .non => some .non
  | .bl b => some (.bl b)
  | .int i => some (.int i)
  | .str x => some (.str x)
  | .ty n => some (.ty n)
  | .scr ns => some (.scr ns)
  | .emp => some .emp
def denL (k:Nat) (S:Store):List D → Option (List D)
  | [] => some []
  | d :: r => (den k S d).bind fun x => (denL k S r).bind fun xs => some (x :: xs)
end
mutual
def age:D → D
  | .tup ds => .tup (ageL ds)
  | .lst _ ds => .lst false (ageL ds)
  | .ref i => .ref i
  | .non => .non
  | .bl b => .bl b
  | .int i => .int i
  | .str x => .str x
  | .ty n => .ty n
  | .scr ns => .scr ns
  | .emp => .emp
def ageL:List D → List D
  | [] => []
  | d :: r => age d :: ageL r
end
mutual
theorem Je2:∀ {d:D},Jdl d = true → Ja2 d = true
  | .ref _,h => by simp [Jdl] at h
  | .lst _ _,h => by simp [Jdl] at h
  | .scr _,h => by simp [Jdl] at h
  | .emp,h => by simp [Jdl] at h
  | .tup ds,h => by rw [Jdl] at h; rw [Ja2]; exact Jbr h
  | .non,_ => rfl
  | .bl _,_ => rfl
  | .int _,_ => rfl
  | .str _,_ => rfl
  | .ty _,_ => rfl
theorem Jbr:∀ {ds:List D},Jew ds = true → Jav ds = true
  | [],_ => rfl
  | d :: r,h => by
    rw [Jew,Bool.and_eq_true] at h
    rw [Jav,Je2 h.1,Jbr h.2]; rfl
end
mutual
theorem Jmm:∀ {d:D},Jdl d = true → newD d = true
  | .ref _,h => by simp [Jdl] at h
  | .lst _ _,h => by simp [Jdl] at h
  | .scr _,h => by simp [Jdl] at h
  | .emp,h => by simp [Jdl] at h
  | .tup ds,h => by rw [Jdl] at h; rw [newD]; exact Jiv h
  | .non,_ => rfl
  | .bl _,_ => rfl
  | .int _,_ => rfl
  | .str _,_ => rfl
  | .ty _,_ => rfl
theorem Jiv:∀ {ds:List D},Jew ds = true → newL ds = true
  | [],_ => rfl
  | d :: r,h => by
    rw [Jew,Bool.and_eq_true] at h
    rw [newL,Jmm h.1,Jiv h.2]; rfl
end
mutual
theorem Jhk (k:Nat) (S:Store):∀ {d:D},Ja2 d = true → den k S d = some d
  | .ref _,h => by simp [Ja2] at h
  | .lst m ds,h => by rw [Ja2] at h; rw [den,Jbn k S h]; rfl
  | .tup ds,h => by rw [Ja2] at h; rw [den,Jbn k S h]; rfl
  | .non,_ => by rw [den]
  | .bl _,_ => by rw [den]
  | .int _,_ => by rw [den]
  | .str _,_ => by rw [den]
  | .ty _,_ => by rw [den]
  | .scr _,_ => by rw [den]
  | .emp,_ => by rw [den]
theorem Jbn (k:Nat) (S:Store):∀ {ds:List D},Jav ds = true → denL k S ds = some ds
  | [],_ => by rw [denL]
  | d :: r,h => by
    rw [Jav,Bool.and_eq_true] at h
    rw [denL,Jhk k S h.1,Jbn k S h.2]; rfl
end
mutual
theorem Jiu:∀ {d:D},Jdl d = true → age d = d
  | .ref _,h => by simp [Jdl] at h
  | .lst _ _,h => by simp [Jdl] at h
  | .scr _,h => by simp [Jdl] at h
  | .emp,h => by simp [Jdl] at h
  | .tup ds,h => by rw [Jdl] at h; rw [age,Jhe h]
  | .non,_ => by rw [age]
  | .bl _,_ => by rw [age]
  | .int _,_ => by rw [age]
  | .str _,_ => by rw [age]
  | .ty _,_ => by rw [age]
theorem Jhe:∀ {ds:List D},Jew ds = true → ageL ds = ds
  | [],_ => by rw [ageL]
  | d :: r,h => by
    rw [Jew,Bool.and_eq_true] at h
    rw [ageL,Jiu h.1,Jhe h.2]
end

section
variable {Γ Γ':Fr} {μ μ':Mu} {H:Hp}
mutual
theorem VR.age (hK:Γ'.K = Γ.K) (hN:∀ a,¬ Live μ a → Γ.N a ∨ Γ.H0 a = none → Γ'.N a) (hl:∀ a o,H a = some o → ¬ Live μ a → ¬ Live μ' a):∀ {v:V} {d:D},Ja2 d = true → VR Γ μ H v d → VR Γ' μ' H v (VS.age d)
  | _,_,_,.non => by rw [VS.age]; exact .non
  | _,_,_,.bl b => by rw [VS.age]; exact .bl b
  | _,_,_,.int i => by rw [VS.age]; exact .int i
  | _,_,_,.str x => by rw [VS.age]; exact .str x
  | _,_,_,.ty n => by rw [VS.age]; exact .ty n
  | _,_,h,.tup hb t => by rw [Ja2] at h; rw [VS.age]; exact .tup hb (VRs.age hK hN hl h t)
  | _,_,h,.lst o n hb t => by rw [Ja2] at h; rw [VS.age]; exact .lst ⟨fun z => (by cases z),.inl (hN _ n o.2)⟩ (hl _ _ hb n) hb (VRs.age hK hN hl h t)
  | _,_,h,.ref _ _ => by simp [Ja2] at h
  | _,_,_,.scrK k => by rw [VS.age]; exact .scrK (by rw [hK]; exact k)
  | _,_,_,.scrR n hb => by rw [VS.age]; exact .scrR (hl _ _ hb n) hb
  | _,_,_,.emp n hb => by rw [VS.age]; exact .emp (hl _ _ hb n) hb
theorem VRs.age (hK:Γ'.K = Γ.K) (hN:∀ a,¬ Live μ a → Γ.N a ∨ Γ.H0 a = none → Γ'.N a) (hl:∀ a o,H a = some o → ¬ Live μ a → ¬ Live μ' a):∀ {v:List V} {d:List D},Jav d = true → VRs Γ μ H v d → VRs Γ' μ' H v (ageL d)
  | _,_,_,.nil => by rw [ageL]; exact .nil
  | _,_,h,.cons r t => by
    rw [Jav,Bool.and_eq_true] at h
    rw [ageL]; exact .cons (VR.age hK hN hl h.1 r) (VRs.age hK hN hl h.2 t)
end
mutual
theorem VR.pure (hK:Γ'.K = Γ.K) (hN:∀ m a xs,¬ Live μ a → Γ.Ok m a → H a = some (.lst xs) → Γ'.Ok m a ∧ ¬ Live μ' a) (ho:∀ a o,H a = some o → ¬ Live μ a → (∀ xs,o ≠ .lst xs) → ¬ Live μ' a):∀ {v:V} {d:D},Ja2 d = true → VR Γ μ H v d → VR Γ' μ' H v d
  | _,_,_,.non => .non
  | _,_,_,.bl b => .bl b
  | _,_,_,.int i => .int i
  | _,_,_,.str x => .str x
  | _,_,_,.ty n => .ty n
  | _,_,h,.tup hb t => by rw [Ja2] at h; exact .tup hb (VRs.pure hK hN ho h t)
  | _,_,h,.lst o n hb t => by rw [Ja2] at h; exact .lst (hN _ _ _ n o hb).1 (hN _ _ _ n o hb).2 hb (VRs.pure hK hN ho h t)
  | _,_,h,.ref _ _ => by simp [Ja2] at h
  | _,_,_,.scrK k => .scrK (by rw [hK]; exact k)
  | _,_,_,.scrR n hb => .scrR (ho _ _ hb n fun _ z => by cases z) hb
  | _,_,_,.emp n hb => .emp (ho _ _ hb n fun _ z => by cases z) hb
theorem VRs.pure (hK:Γ'.K = Γ.K) (hN:∀ m a xs,¬ Live μ a → Γ.Ok m a → H a = some (.lst xs) → Γ'.Ok m a ∧ ¬ Live μ' a) (ho:∀ a o,H a = some o → ¬ Live μ a → (∀ xs,o ≠ .lst xs) → ¬ Live μ' a):∀ {v:List V} {d:List D},Jav d = true → VRs Γ μ H v d → VRs Γ' μ' H v d
  | _,_,_,.nil => .nil
  | _,_,h,.cons r t => by
    rw [Jav,Bool.and_eq_true] at h
    exact .cons (VR.pure hK hN ho h.1 r) (VRs.pure hK hN ho h.2 t)
end
mutual
theorem VR.den {σ:St} {env:Env} {S S0:Store} {k:Nat} (R:Rep Γ μ σ H env S) (hK:Γ'.K = Γ.K) (h0:∀ (i:Nat) (ds:List D) (a:Addr),k ≤ i → S0[i]? = some (some ds) → S[i]? = some (some ds) ∧ (μ[i]? = some (some a) → ¬ Live μ' a ∧ Γ'.Ok true a))
    (hN:∀ m a,¬ Live μ a → Γ.Ok m a → Γ'.Ok m a) (hl:∀ a o,H a = some o → ¬ Live μ a → ¬ Live μ' a):∀ {v:V} {d e:D},VR Γ μ H v d → VS.den k S0 d = some e → VR Γ' μ' H v e
  | _,_,_,.non,h => by rw [VS.den] at h; cases h; exact .non
  | _,_,_,.bl b,h => by rw [VS.den] at h; cases h; exact .bl b
  | _,_,_,.int i,h => by rw [VS.den] at h; cases h; exact .int i
  | _,_,_,.str x,h => by rw [VS.den] at h; cases h; exact .str x
  | _,_,_,.ty n,h => by rw [VS.den] at h; cases h; exact .ty n
  | _,_,_,.tup hb t,h => by
    rw [VS.den] at h
    obtain ⟨es,e1,e2⟩ := map_some h
    subst e2
    exact .tup hb (VRs.den R hK h0 hN hl t e1)
  | _,_,_,.lst o n hb t,h => by
    rw [VS.den] at h
    obtain ⟨es,e1,e2⟩ := map_some h
    subst e2
    exact .lst (hN _ _ n o) (hl _ _ hb n) hb (VRs.den R hK h0 hN hl t e1)
  | _,.ref i,_,.ref hi f,h => by
    rw [VS.den] at h
    by_cases hk:i < k
    · rw [if_pos hk] at h; cases h
    · rw [if_neg hk] at h
      split at h
      · rename_i ds hd
        by_cases hp:Jav ds = true
        · rw [if_pos hp] at h
          cases h
          have hS := (h0 i ds 0 (by omega) hd).1
          obtain ⟨a,xs,h1,h2,h3⟩ := R.sto i ds hS
          have hv := f a h1
          subst hv
          obtain ⟨z1,z2⟩ := (h0 i ds a (by omega) hd).2 h1
          exact .lst z2 z1 h2 (VRs.pure hK (fun m b ys n o hb => ⟨hN m b n o,hl b _ hb n⟩) (fun b o hb n _ => hl b o hb n) hp h3)
        · rw [if_neg hp] at h; cases h
      · cases h
  | _,_,_,.scrK k,h => by rw [VS.den] at h; cases h; exact .scrK (by rw [hK]; exact k)
  | _,_,_,.scrR n hb,h => by rw [VS.den] at h; cases h; exact .scrR (hl _ _ hb n) hb
  | _,_,_,.emp n hb,h => by rw [VS.den] at h; cases h; exact .emp (hl _ _ hb n) hb
theorem VRs.den {σ:St} {env:Env} {S S0:Store} {k:Nat} (R:Rep Γ μ σ H env S) (hK:Γ'.K = Γ.K) (h0:∀ (i:Nat) (ds:List D) (a:Addr),k ≤ i → S0[i]? = some (some ds) → S[i]? = some (some ds) ∧ (μ[i]? = some (some a) → ¬ Live μ' a ∧ Γ'.Ok true a))
    (hN:∀ m a,¬ Live μ a → Γ.Ok m a → Γ'.Ok m a) (hl:∀ a o,H a = some o → ¬ Live μ a → ¬ Live μ' a):∀ {v:List V} {d e:List D},VRs Γ μ H v d → VS.denL k S0 d = some e → VRs Γ' μ' H v e
  | _,_,_,.nil,h => by rw [denL] at h; cases h; exact .nil
  | _,_,_,.cons r t,h => by
    rw [denL] at h
    obtain ⟨x,e1,h⟩ := bind_some h
    obtain ⟨xs,e2,h⟩ := bind_some h
    cases h
    exact .cons (VR.den R hK h0 hN hl r e1) (VRs.den R hK h0 hN hl t e2)
end
mutual
theorem VR.new (hN:∀ a xs,¬ Live μ a → Γ.Ok true a → H a = some (.lst xs) → Γ'.Ok true a ∧ ¬ Live μ' a):∀ {v:V} {d:D},newD d = true → VR Γ μ H v d → VR Γ' μ' H v d
  | _,_,_,.non => .non
  | _,_,_,.bl b => .bl b
  | _,_,_,.int i => .int i
  | _,_,_,.str x => .str x
  | _,_,_,.ty n => .ty n
  | _,_,h,.tup hb t => by rw [newD] at h; exact .tup hb (VRs.new hN h t)
  | _,.lst m ds,h,.lst o n hb t => by
    rw [newD,Bool.and_eq_true] at h
    obtain ⟨rfl,h⟩ := h
    exact .lst (hN _ _ n o hb).1 (hN _ _ n o hb).2 hb (VRs.new hN h t)
  | _,_,h,.ref _ _ => by simp [newD] at h
  | _,_,h,.scrK _ => by simp [newD] at h
  | _,_,h,.scrR _ _ => by simp [newD] at h
  | _,_,h,.emp _ _ => by simp [newD] at h
theorem VRs.new (hN:∀ a xs,¬ Live μ a → Γ.Ok true a → H a = some (.lst xs) → Γ'.Ok true a ∧ ¬ Live μ' a):∀ {v:List V} {d:List D},newL d = true → VRs Γ μ H v d → VRs Γ' μ' H v d
  | _,_,_,.nil => .nil
  | _,_,h,.cons r t => by
    rw [newL,Bool.and_eq_true] at h
    exact .cons (VR.new hN h.1 r) (VRs.new hN h.2 t)
end
mutual
theorem VR.flat:∀ {v:V} {d:D},Jdl d = true → VR Γ μ H v d → VR Γ' μ' H v d
  | _,_,_,.non => .non
  | _,_,_,.bl b => .bl b
  | _,_,_,.int i => .int i
  | _,_,_,.str x => .str x
  | _,_,_,.ty n => .ty n
  | _,_,h,.tup hb t => by rw [Jdl] at h; exact .tup hb (VRs.flat h t)
  | _,_,h,.lst _ _ _ _ => by simp [Jdl] at h
  | _,_,h,.ref _ _ => by simp [Jdl] at h
  | _,_,h,.scrK _ => by simp [Jdl] at h
  | _,_,h,.scrR _ _ => by simp [Jdl] at h
  | _,_,h,.emp _ _ => by simp [Jdl] at h
theorem VRs.flat:∀ {v:List V} {d:List D},Jew d = true → VRs Γ μ H v d → VRs Γ' μ' H v d
  | _,_,_,.nil => .nil
  | _,_,h,.cons r t => by
    rw [Jew,Bool.and_eq_true] at h
    exact .cons (VR.flat h.1 r) (VRs.flat h.2 t)
end
mutual
theorem Jmr {k:Nat} {S:Store}:∀ {d e:D},den k S d = some e → Ja2 e = true
  | .tup ds,e,h => by
    rw [den] at h
    obtain ⟨es,e1,e2⟩ := map_some h
    subst e2
    rw [Ja2]; exact Ji1 e1
  | .lst m ds,e,h => by
    rw [den] at h
    obtain ⟨es,e1,e2⟩ := map_some h
    subst e2
    rw [Ja2]; exact Ji1 e1
  | .ref i,e,h => by
    rw [den] at h
    by_cases hk:i < k
    · rw [if_pos hk] at h; cases h
    · rw [if_neg hk] at h
      split at h
      · rename_i ds hd
        by_cases hp:Jav ds = true
        · rw [if_pos hp] at h; cases h; rw [Ja2]; exact hp
        · rw [if_neg hp] at h; cases h
      · cases h
  | .non,e,h => by rw [den] at h; cases h; rfl
  | .bl _,e,h => by rw [den] at h; cases h; rfl
  | .int _,e,h => by rw [den] at h; cases h; rfl
  | .str _,e,h => by rw [den] at h; cases h; rfl
  | .ty _,e,h => by rw [den] at h; cases h; rfl
  | .scr _,e,h => by rw [den] at h; cases h; rfl
  | .emp,e,h => by rw [den] at h; cases h; rfl
theorem Ji1 {k:Nat} {S:Store}:∀ {d e:List D},denL k S d = some e → Jav e = true
  | [],e,h => by rw [denL] at h; cases h; rfl
  | d :: r,e,h => by
    rw [denL] at h
    obtain ⟨x,e1,h⟩ := bind_some h
    obtain ⟨xs,e2,h⟩ := bind_some h
    cases h
    rw [Jav,Jmr e1,Ji1 e2]; rfl
end
end
end VS
end
section
set_option Elab.async false
set_option maxRecDepth 10000
set_option linter.all false
namespace VS
open PySem PySem.Spec L2
abbrev PSem := List D → Option D
abbrev MSem := List Int → List D → Option (D × List Int)
def intsOf:List D → Option (List Int)
  | [] => some []
  | .int i :: r => (intsOf r).map (i :: ·)
  | _ => none
theorem Jd7:∀ {ds:List D} {ns:List Int},intsOf ds = some ns → ds = ns.map D.int
  | [],_,h => by cases h; rfl
  | .int i :: r,ns,h => by
    obtain ⟨ms,e1,e2⟩ := map_some h
    subst e2
    rw [List.map_cons,Jd7 e1]
  | .non :: _,_,h => by cases h
  | .bl _ :: _,_,h => by cases h
  | .str _ :: _,_,h => by cases h
  | .ty _ :: _,_,h => by cases h
  | .tup _ :: _,_,h => by cases h
  | .lst _ _ :: _,_,h => by cases h
  | .ref _ :: _,_,h => by cases h
  | .scr _ :: _,_,h => by cases h
  | .emp :: _,_,h => by cases h
@[simp] theorem Jhn (ns:List Int):intsOf (ns.map D.int) = some ns := by
  induction ns with
  | nil => rfl
  | cons n r ih => rw [List.map_cons,intsOf,ih]; rfl
def runP (np n:Nat) (f:SSem):PSem := fun ds => if ds.length = np then (f (ds.map some ++ List.replicate (n - ds.length) none) []).bind fun p => match p.1 with | .ret d => den 0 p.2.2 d | .nx => some .non | _ => none else none
def runM (np n:Nat) (f:SSem):MSem := fun ns ds => if ds.length + 1 = np then (f (some (.ref 0) :: (ds.map some ++ List.replicate (n - 1 - ds.length) none)) [some (ns.map D.int)]).bind fun p => match p.2.2[0]? with
  | some (some cs) => (intsOf cs).bind fun ms => (match p.1 with | .ret d => (den 1 p.2.2 d).map fun r => (r,ms) | .nx => some (.non,ms) | _ => none)
  | _ => none
  else none
def spP (K:PySem.W.Frag) (sem:PSem) (n:Nat):Sp := fun vs H Q _ => ∃ (N:Addr → Prop) (ds:List D) (r:D),vs.length = n ∧ VRs ⟨K,H,N,[]⟩ [] H vs ds ∧ sem ds = some r ∧ ∀ v H',Same H H' → VR ⟨K,H,N,[]⟩ [] H' v r → Q v H'
def spM (K:PySem.W.Frag) (sem:MSem) (n:Nat):Sp := fun vs H Q _ => ∃ (N:Addr → Prop) (a:Addr) (us:List V) (ns:List Int) (ds:List D) (r:D) (ms:List Int),vs = .ref a :: us ∧ vs.length = n ∧ H a = some (.lst (ns.map V.int)) ∧ VRs ⟨K,H,N,[a]⟩ [some a] H us ds ∧ sem ns ds = some (r,ms) ∧
  ∀ v H',(∀ b o,b ≠ a → H b = some o → H' b = some o) → H' a = some (.lst (ms.map V.int)) → VR ⟨K,H,N,[a]⟩ [some a] H' v r → Q v H'

section
variable {P:Program} {w:World} {K:PySem.W.Frag} {mg:Str → Option Value} {base:Heap}
theorem Jm3 {N:List Str} {vs:List V} {ds:List D} {Γ:Fr} {μ:Mu} {H:Hp} (r:VRs Γ μ H vs ds) {i:Nat} {d:D} {n:Nat} (h:(ds.map some ++ List.replicate n none:Env)[i]? = some (some d)):∃ v,(vs.map some ++ List.replicate (N.length - vs.length) none:St)[i]? = some (some v) ∧ VR Γ μ H v d := by
  have hi:i < ds.length := by
    by_cases hi:i < ds.length
    · exact hi
    · rw [List.getElem?_append_right (by simpa using hi),List.getElem?_replicate] at h
      split at h <;> cases h
  rw [List.getElem?_append_left (by simpa using hi),List.getElem?_map] at h
  have h2:ds[i]? = some d := by
    cases q:ds[i]? with
    | none => rw [q] at h; cases h
    | some e => rw [q] at h; cases h; rfl
  obtain ⟨v,e1,e2⟩ := r.get h2
  refine ⟨v,?_,e2⟩
  rw [List.getElem?_append_left (by rw [List.length_map,r.length]; exact hi),List.getElem?_map,e1]
  rfl
theorem Jfu {a:Addr}:¬ Live [] a := fun z => by simp [Live] at z
theorem Jj7 {a b:Addr}:Live [some b] a ↔ a = b := by simp [Live]
theorem fnP {x qual:Str} {st:Stmt} {f:Addr} {fd:FuncData} {N ps:List Str} {k:Nat} {fs:SSem} (F:Fun K x qual st f fd) (Sc:Jbp N ps (Jai st))
    (hb:∀ (cdv:Value) (A:Around) (outer:List PySem.Env) (s:Shared) (H:Hp) (E:XK),Room k (A.deeper (PyProof.Rows.envOfC qual (Jai st) s.heap.objs.size f cdv)) → JSs (cxOf CX0 P w K mg base N qual (Jai st) f cdv A outer s H E).nox (Jbf st) fs) :
    FnOk P w K mg base CX0 (k + 1) f fd ps (spP K (runP ps.length N.length fs) ps.length) := by
  refine F.ok Sc (fun vs H Q E h => ?_) (fun cdv A outer s H vs Q E hr h => ?_)
  · obtain ⟨_,_,_,hl,_⟩ := h; exact hl
  obtain ⟨Nn,ds,r,hl,rs,e,q⟩ := h
  refine ⟨_,(hb cdv A outer s H E hr).ps,?_⟩
  have hdl := rs.length
  unfold runP at e
  rw [if_pos (by omega)] at e
  obtain ⟨⟨fl,env',S'⟩,e1,e⟩ := bind_some e
  have hpl:ps.length ≤ N.length := by have := congrArg List.length Sc.pre; rw [List.length_take] at this; omega
  refine ⟨⟨K,H,Nn,[]⟩,[],_,[],fl,env',S',rfl,⟨fun i d h => Jm3 rs h,?_,fun i ds h => by simp at h,fun i a h => by simp at h,fun i j a h => by simp at h,rfl,Ext.refl _ _,fun i a _ h => by simp at h⟩,e1,fun μ' σ' H' x' R' => ?_⟩
  · unfold L2.start
    rw [List.length_append,List.length_map,List.length_replicate,List.length_append,List.length_map,List.length_replicate,hdl]
  have sm:Same H H' := fun b o hb => (x'.keep b o hb Jfu).1
  dsimp only at e
  cases fl with
  | nx => cases e; exact q _ H' sm .non
  | brk => cases e
  | cnt => cases e
  | ret d =>
    intro v rv
    refine q v H' sm (VR.den R' rfl (fun i ds a _ hs => ⟨hs,fun hm => ⟨Jfu,?_⟩⟩) (fun m a _ o => o) (fun a o _ _ => Jfu) rv e)
    have hn := R'.new i a (Nat.zero_le _) hm
    exact ⟨fun _ => hn,.inr hn⟩
theorem fnM {x qual:Str} {st:Stmt} {f:Addr} {fd:FuncData} {N ps:List Str} {k:Nat} {fs:SSem} (F:Fun K x qual st f fd) (Sc:Jbp N ps (Jai st))
    (hb:∀ (cdv:Value) (A:Around) (outer:List PySem.Env) (s:Shared) (H:Hp) (E:XK),Room k (A.deeper (PyProof.Rows.envOfC qual (Jai st) s.heap.objs.size f cdv)) → JSs (cxOf CX0 P w K mg base N qual (Jai st) f cdv A outer s H E).nox (Jbf st) fs) :
    FnOk P w K mg base CX0 (k + 1) f fd ps (spM K (runM ps.length N.length fs) ps.length) := by
  refine F.ok Sc (fun vs H Q E h => ?_) (fun cdv A outer s H vs Q E hr h => ?_)
  · obtain ⟨_,_,_,_,_,_,_,_,hl,_⟩ := h; exact hl
  obtain ⟨Nn,a,us,ns,ds,r,ms,rfl,hl,ha,rs,e,q⟩ := h
  refine ⟨_,(hb cdv A outer s H E hr).ps,?_⟩
  have hdl := rs.length
  rw [List.length_cons] at hl
  unfold runM at e
  rw [if_pos (by omega)] at e
  obtain ⟨⟨fl,env',S'⟩,e1,e⟩ := bind_some e
  have hpl:ps.length ≤ N.length := by have := congrArg List.length Sc.pre; rw [List.length_take] at this; omega
  refine ⟨⟨K,H,Nn,[a]⟩,[some a],_,[some (ns.map D.int)],fl,env',S',rfl,⟨fun i d h => ?_,?_,fun i es h => ?_,fun i b h => ?_,fun i j b h1 h2 => ?_,rfl,Ext.refl _ _,fun i b hi h => ?_⟩,e1,fun μ' σ' H' x' R' => ?_⟩
  · cases i with
    | zero =>
      simp at h
      subst h
      refine ⟨.ref a,by simp [L2.start],.ref (by simp) fun b hb => ?_⟩
      simp at hb; rw [hb]
    | succ i =>
      rw [List.getElem?_cons_succ] at h
      obtain ⟨v,e1,e2⟩ := Jm3 (N := List.replicate (N.length - 1) "") rs h
      refine ⟨v,?_,e2⟩
      unfold L2.start
      rw [List.map_cons,List.cons_append,List.getElem?_cons_succ,List.length_cons]
      rw [List.length_replicate] at e1
      rw [show N.length - (us.length + 1) = N.length - 1 - us.length by omega]
      exact e1
  · unfold L2.start
    rw [List.length_append,List.length_map,List.length_replicate,List.length_cons,List.length_cons,List.length_append,List.length_map,List.length_replicate,hdl]
    omega
  · cases i with
    | zero => simp at h; subst h; exact ⟨a,_,by simp,ha,VRs.ints ns⟩
    | succ i => simp at h
  · cases i with
    | zero => exact ⟨_,rfl⟩
    | succ i => simp at h
  · cases i with
    | zero => cases j with
      | zero => rfl
      | succ j => simp at h2
    | succ i => simp at h1
  · cases i with
    | zero => simp at hi
    | succ i => simp at h
  have sm:∀ b o,b ≠ a → H b = some o → H' b = some o := fun b o hb h => (x'.keep b o h fun z => hb (Jj7.mp z)).1
  dsimp only at e
  split at e
  · rename_i cs hc
    obtain ⟨ms',e3,e5⟩ := bind_some e
    clear e
    obtain ⟨a',xs',g1,g2,g3⟩ := R'.sto 0 cs hc
    have ea:a' = a := by
      have := x'.ids 0 a' (by simp) g1
      simp at this; exact this.symm
    subst ea
    have ec := Jd7 e3
    subst ec
    have ex := g3.Jpj
    subst ex
    cases fl with
    | nx => cases e5; exact q _ H' sm g2 .non
    | brk => cases e5
    | cnt => cases e5
    | ret d =>
      intro v rv
      dsimp only at e5
      obtain ⟨r',e4,e6⟩ := map_some e5
      cases e6
      refine q v H' sm g2 (VR.den R' rfl (fun i es b hi hs => ⟨hs,fun hm => ⟨fun z => ?_,?_⟩⟩) (fun m b _ o => o) (fun b o _ n z => n ?_) rv e4)
      · have:b = a' := Jj7.mp z
        subst this
        have := R'.inj 0 i b g1 hm
        omega
      · have hn := R'.new i b hi hm
        exact ⟨fun _ => hn,.inr hn⟩
      · have:b = a' := Jj7.mp z
        subst this
        exact List.mem_of_getElem? g1
  · cases e
end
theorem Jcp {np n:Nat} {f:SSem} {ds:List D} {r:D} (h:runP np n f ds = some r):ds.length = np ∧ Ja2 r = true := by
  unfold runP at h
  by_cases hl:ds.length = np
  · rw [if_pos hl] at h
    obtain ⟨⟨fl,env',S'⟩,e1,e⟩ := bind_some h
    refine ⟨hl,?_⟩
    dsimp only at e
    cases fl with
    | nx => cases e; rfl
    | brk => cases e
    | cnt => cases e
    | ret d => exact Jmr e
  · rw [if_neg hl] at h; cases h
theorem Jh4 {np n:Nat} {f:SSem} {ns:List Int} {ds:List D} {r:D × List Int} (h:runM np n f ns ds = some r):ds.length + 1 = np ∧ Ja2 r.1 = true := by
  unfold runM at h
  by_cases hl:ds.length + 1 = np
  · rw [if_pos hl] at h
    obtain ⟨⟨fl,env',S'⟩,e1,e⟩ := bind_some h
    refine ⟨hl,?_⟩
    dsimp only at e
    split at e
    · rename_i cs hc
      obtain ⟨ms',e3,e⟩ := bind_some e
      cases fl with
      | nx => cases e; rfl
      | brk => cases e
      | cnt => cases e
      | ret d =>
        dsimp only at e
        obtain ⟨r',e4,e⟩ := map_some e
        cases e
        exact Jmr e4
    · cases e
  · rw [if_neg hl] at h; cases h
end VS
end
section
set_option Elab.async false
set_option maxRecDepth 10000
set_option linter.all false
namespace VS
open PySem PySem.Spec L2
structure CalP (P:Program) (w:World) (K:PySem.W.Frag) (mg:Str → Option Value) (base:Heap) (x:Str) (k:Nat) (sem:PSem):Prop where
  cal:∃ ps,Cal P w K mg base x k ps (spP K sem ps.length) ∧ ∀ ds r,sem ds = some r → ds.length = ps.length ∧ Ja2 r = true
structure CalM (P:Program) (w:World) (K:PySem.W.Frag) (mg:Str → Option Value) (base:Heap) (x:Str) (k:Nat) (sem:MSem):Prop where
  cal:∃ ps,Cal P w K mg base x k ps (spM K sem ps.length) ∧ ∀ ns ds r,sem ns ds = some r → ds.length + 1 = ps.length ∧ Ja2 r.1 = true
def Jam (sem:PSem) (a:ASem):ESem := fun env S => (a env S).bind fun p => (denL 0 p.2 p.1).bind fun ds => (sem (ageL ds)).bind fun r => if (Jav p.1 || newD r) = true then some (r,p.2) else none
def Ja4 (sem:MSem) (a:ASem):ESem := fun env S => (a env S).bind fun p => match p.1 with
  | .ref i :: rest => (match p.2[i]? with
    | some (some cs) => (intsOf cs).bind fun ns => (denL 0 (p.2.set i none) rest).bind fun ds => (sem ns (ageL ds)).bind fun r => if (Jav rest || newD r.1) = true then some (r.1,p.2.set i (some (r.2.map D.int))) else none
    | _ => none)
  | _ => none
def Juy (n:Nat):List D → Option (List D × List D)
  | [] => none
  | d :: r => if Jdl d = true then (Juy n r).map fun p => (d :: p.1,p.2) else match d with
    | .lst true ds => if (Jew ds && Jew r) = true then some (.ref n :: r,ds) else none
    | _ => none
def thaw (n:Nat):D → Option (D × List D)
  | .lst true ds => if Jew ds = true then some (.ref n,ds) else none
  | .tup es => (Juy n es).map fun p => (.tup p.1,p.2)
  | _ => none
def Jn7 (sem:PSem) (a:ASem):ESem := fun env S => (Jam sem a env S).bind fun p => (thaw p.2.length p.1).bind fun q => some (q.1,p.2 ++ [some q.2])
section
variable {Γ:Fr} {μ:Mu} {σ:St} {H H':Hp} {env:Env} {S:Store}
theorem lend {K:PySem.W.Frag} (hK:Γ.K = K) (R:Rep Γ μ σ H env S) {S0:Store} {m0:List Addr} {vs:List V} {ds es:List D} (r:VRs Γ μ H vs ds) (e:denL 0 S0 ds = some es) (h0:∀ (i:Nat) (ds:List D) (a:Addr),S0[i]? = some (some ds) → S[i]? = some (some ds) ∧ (μ[i]? = some (some a) → ¬ Live (m0.map some) a)) (hm:∀ a ∈ m0,Live μ a)
    (c:Bool) (hc:(Jav ds || c) = true):∃ N:Addr → Prop,VRs ⟨K,H,N,m0⟩ (m0.map some) H vs (ageL es) ∧ (c = true ∨ ∀ a,N a → ¬ Live μ a ∧ (Γ.N a ∨ Γ.H0 a = none)) := by
  subst hK
  have hl:∀ a o,H a = some o → ¬ Live μ a → ¬ Live (m0.map some) a := fun a o _ n z => n (hm a (by simpa [Live] using z))
  by_cases hp:Jav ds = true
  · rw [Jbn 0 S0 hp] at e
    cases e
    exact ⟨fun a => ¬ Live μ a ∧ (Γ.N a ∨ Γ.H0 a = none),VRs.age (Γ := Γ) (Γ' := ⟨Γ.K,H,fun a => ¬ Live μ a ∧ (Γ.N a ∨ Γ.H0 a = none),m0⟩) rfl (fun a n o => ⟨n,o⟩) hl hp r,.inr fun a z => z⟩
  · have hc':c = true := by simpa [hp] using hc
    refine ⟨fun _ => True,?_,.inl hc'⟩
    have r1:VRs ⟨Γ.K,fun _ => none,fun _ => True,m0⟩ (m0.map some) H vs es := VRs.den (Γ' := ⟨Γ.K,fun _ => none,fun _ => True,m0⟩) R rfl (fun i ds a _ hs => ⟨(h0 i ds a hs).1,fun z => ⟨(h0 i ds a hs).2 z,⟨fun _ => rfl,.inl trivial⟩⟩⟩) (fun m a _ _ => ⟨fun _ => rfl,.inl trivial⟩) hl r e
    exact VRs.age (Γ := ⟨Γ.K,fun _ => none,fun _ => True,m0⟩) (Γ' := ⟨Γ.K,H,fun _ => True,m0⟩) (μ := m0.map some) rfl (fun a _ _ => trivial) (fun a o _ n => n) (Ji1 e) r1
theorem home {K:PySem.W.Frag} (hK:Γ.K = K) (R:Rep Γ μ σ H env S) {N:Addr → Prop} {m0:List Addr} {v:V} {r:D} (lv:∀ a,Live μ a → ∃ xs,H' a = some (.lst xs)) (hp:Ja2 r = true) (c:newD r = true ∨ ∀ a,N a → ¬ Live μ a ∧ (Γ.N a ∨ Γ.H0 a = none))
    (rv:VR ⟨K,H,N,m0⟩ (m0.map some) H' v r):VR Γ μ H' v r := by
  subst hK
  rcases c with c | c
  · exact VR.new (fun a xs n o hb => ⟨R.ok (o.1 rfl) true,R.dead (o.1 rfl)⟩) c rv
  · refine VR.pure (Γ := ⟨Γ.K,H,N,m0⟩) (Γ' := Γ) rfl (fun m a xs n o hb => ?_) (fun a o hb n hx z => ?_) hp rv
    · rcases o.2 with z | z
      · refine ⟨⟨fun hm => R.fresh (o.1 hm),(c a z).2⟩,(c a z).1⟩
      · exact ⟨R.ok z m,R.dead z⟩
    · obtain ⟨xs,q⟩ := lv a z
      rw [q] at hb
      exact hx xs (Option.some.inj hb).symm
theorem Rep.adopt (R:Rep Γ μ σ H env S) (sm:Same H H') {a:Addr} {xs:List V} {ds:List D} (hn:H a = none) (ha:H' a = some (.lst xs)) (hf:Jew ds = true) {Γ':Fr} {μ':Mu} (rs:VRs Γ' μ' H' xs ds) :
    Rep Γ (μ ++ [some a]) σ H' env (S ++ [some ds]) ∧ Ext μ H (μ ++ [some a]) H' := by
  have ne:∀ b o,H b = some o → b ≠ a := fun b o h z => by rw [z,hn] at h; cases h
  have x:Ext μ H (μ ++ [some a]) H' := by
    refine ⟨fun b o h n => ⟨sm b o h,fun z => ?_⟩,fun b ys h => sm b _ h,fun b h => sm.free h,fun i b hi h => ?_,by rw [List.length_append]; omega⟩
    · rcases List.mem_append.mp z with z | z
      · exact n z
      · have z':b = a := by simpa using z
        exact ne b o h z'
    · rw [List.getElem?_append_left hi] at h; exact h
  have idx:∀ i b,(μ ++ [some a])[i]? = some (some b) → (i < μ.length ∧ μ[i]? = some (some b)) ∨ (i = μ.length ∧ b = a) := fun i b h => by
    by_cases hi:i < μ.length
    · rw [List.getElem?_append_left hi] at h; exact .inl ⟨hi,h⟩
    · rw [List.getElem?_append_right (by omega)] at h
      have hl := (List.getElem?_eq_some_iff.mp h).1
      have hi':i = μ.length := by simp at hl; omega
      subst hi'
      simp at h
      exact .inr ⟨rfl,h.symm⟩
  have no:∀ i,μ[i]? = some (some a) → False := fun i h => R.dead hn (List.mem_of_getElem? h)
  refine ⟨⟨fun i d h => ?_,R.len,fun i es h => ?_,fun i b h => ?_,fun i j b h1 h2 => ?_,by rw [List.length_append,List.length_append,R.slen]; rfl,R.ent.trans x,fun i b hi h => ?_⟩,x⟩
  · obtain ⟨v,h1,h2⟩ := R.vals i d h
    exact ⟨v,h1,h2.ext x⟩
  · by_cases hi:i < S.length
    · rw [List.getElem?_append_left hi] at h
      obtain ⟨b,ys,h1,h2,h3⟩ := R.sto i es h
      exact ⟨b,ys,by rw [List.getElem?_append_left (by rw [← R.slen]; exact hi)]; exact h1,sm _ _ h2,h3.ext x⟩
    · rw [List.getElem?_append_right (by omega)] at h
      have hl := (List.getElem?_eq_some_iff.mp h).1
      have hi':i = S.length := by simp at hl; omega
      subst hi'
      simp at h
      subst h
      exact ⟨a,xs,by rw [R.slen]; simp,ha,VRs.flat hf rs⟩
  · rcases idx i b h with ⟨hi,h⟩ | ⟨rfl,rfl⟩
    · obtain ⟨ds',q⟩ := R.liv i b h
      exact ⟨ds',by rw [List.getElem?_append_left (by rw [R.slen]; exact hi)]; exact q⟩
    · exact ⟨ds,by rw [← R.slen]; simp⟩
  · rcases idx i b h1 with ⟨_,g1⟩ | ⟨e1,e2⟩
    · rcases idx j b h2 with ⟨_,g2⟩ | ⟨e3,e4⟩
      · exact R.inj i j b g1 g2
      · exact (no i (e4 ▸ g1)).elim
    · rcases idx j b h2 with ⟨_,g2⟩ | ⟨e3,_⟩
      · exact (no j (e2 ▸ g2)).elim
      · rw [e1,e3]
  · rcases idx i b h with ⟨_,h⟩ | ⟨rfl,rfl⟩
    · exact R.new i b hi h
    · exact R.fresh hn
end
theorem Jp2 {Γ:Fr} {μ:Mu} {H:Hp} {n:Nat}:∀ {vs:List V} {ds:List D} {p:List D × List D},Juy n ds = some p → VRs Γ μ H vs ds →
    ∃ a xs,Γ.Ok true a ∧ H a = some (.lst xs) ∧ VRs Γ μ H xs p.2 ∧ Jew p.2 = true ∧ ∀ (Γ':Fr) (μ':Mu),μ'[n]? = some (some a) → VRs Γ' μ' H vs p.1
  | _,[],_,h,_ => by cases h
  | _,d :: r,p,h,.cons (xs := vr) rd rr => by
    unfold Juy at h
    by_cases hf:Jdl d = true
    · rw [if_pos hf] at h
      obtain ⟨q,e1,e2⟩ := map_some h
      subst e2
      obtain ⟨a,xs,h1,h2,h3,h4,h5⟩ := Jp2 e1 rr
      exact ⟨a,xs,h1,h2,h3,h4,fun Γ' μ' z => .cons (VR.flat hf rd) (h5 Γ' μ' z)⟩
    · rw [if_neg hf] at h
      split at h
      · rename_i ds
        by_cases hg:(Jew ds && Jew r) = true
        · rw [if_pos hg] at h
          cases h
          rw [Bool.and_eq_true] at hg
          cases rd with
          | @lst _ a xs _ o nl hb t =>
            refine ⟨a,xs,o,hb,t,hg.1,fun Γ' μ' z => .cons (.ref (List.getElem?_eq_some_iff.mp z).1 fun b hb' => ?_) (VRs.flat hg.2 rr)⟩
            rw [z] at hb'; cases hb'; rfl
        · rw [if_neg hg] at h; cases h
      · cases h
theorem Jx1 {Γ:Fr} {μ:Mu} {H:Hp} {n:Nat} {v:V} {d:D} {p:D × List D} (h:thaw n d = some p) (r:VR Γ μ H v d) :
    ∃ a xs,Γ.Ok true a ∧ H a = some (.lst xs) ∧ VRs Γ μ H xs p.2 ∧ Jew p.2 = true ∧ ∀ (Γ':Fr) (μ':Mu),μ'[n]? = some (some a) → VR Γ' μ' H v p.1 := by
  unfold thaw at h
  split at h
  · rename_i ds
    by_cases hg:Jew ds = true
    · rw [if_pos hg] at h
      cases h
      cases r with
      | @lst _ a xs _ o nl hb t =>
        refine ⟨a,xs,o,hb,t,hg,fun Γ' μ' z => .ref (List.getElem?_eq_some_iff.mp z).1 fun b hb' => ?_⟩
        rw [z] at hb'; cases hb'; rfl
    · rw [if_neg hg] at h; cases h
  · rename_i es
    obtain ⟨q,e1,e2⟩ := map_some h
    subst e2
    cases r with
    | @tup b xs _ hb t =>
      obtain ⟨a,ys,h1,h2,h3,h4,h5⟩ := Jp2 e1 t
      exact ⟨a,ys,h1,h2,h3,h4,fun Γ' μ' z => .tup hb (h5 Γ' μ' z)⟩
  · cases h
section
variable {X:Cx} {x:Str} {k k':Nat} {e:Expr} {es:List Expr} {f:ASem} {p pos:Pos}
theorem Jaq {sem:PSem} (c:CalP X.prog X.w X.K X.mg X.base x k sem) (hr:Room k' X.A) (hk:k ≤ k') (hg:Gl X x) (ha:JA X (e :: es) f)
    (hdb:(x == ("__debug__":Str)) = false := by decide) (he:starEach (e :: es) X.env = (false,eval e X.env) :: starEach es X.env := by rfl) (hpl:(backTo pos (starEach es X.env)).any (·.1) = false := by rfl) :
    JE X (.Call (.Name x p) (e :: es) [] pos) (Jam sem f) := by
  obtain ⟨ps,c,hok⟩ := c.cal
  refine ⟨PE.imp (Jl5 c hr hk hg ha.pa hdb he hpl) fun σ H Q h => ?_⟩
  obtain ⟨Γ,μ,env,S,d,S',hK,R,e,q⟩ := h
  obtain ⟨⟨as,S1⟩,e1,e⟩ := bind_some e
  obtain ⟨ds,e2,e⟩ := bind_some e
  obtain ⟨r,e3,e⟩ := bind_some e
  refine ⟨Γ,μ,env,S,as,S1,hK,R,e1,fun vs μ1 H1 x1 R1 r1 => ?_⟩
  show spP X.K sem ps.length (vs ++ []) H1 Q E0
  rw [List.append_nil]
  dsimp only at e e2
  by_cases hc:(Jav as || newD r) = true
  · rw [if_pos hc] at e
    cases e
    obtain ⟨hl,hp⟩ := hok _ _ e3
    obtain ⟨N,rs,cN⟩ := lend hK R1 (m0 := []) r1 e2 (fun i ds a hs => ⟨hs,fun _ => Jfu⟩) (fun a z => by simp at z) (newD d) hc
    refine ⟨N,_,d,?_,rs,e3,fun v H' sm rv => ?_⟩
    · rw [rs.length,hl]
    obtain ⟨R2,x2⟩ := R1.grow sm
    exact q v μ1 H' (x1.trans x2) R2 (home hK R1 (fun a z => R2.live z) hp cN rv)
  · rw [if_neg hc] at e; cases e
theorem Jvy {sem:PSem} (c:CalP X.prog X.w X.K X.mg X.base x k sem) (hr:Room k' X.A) (hk:k ≤ k') (hg:Gl X x) (ha:JA X (e :: es) f)
    (hdb:(x == ("__debug__":Str)) = false := by decide) (he:starEach (e :: es) X.env = (false,eval e X.env) :: starEach es X.env := by rfl) (hpl:(backTo pos (starEach es X.env)).any (·.1) = false := by rfl) :
    JE X (.Call (.Name x p) (e :: es) [] pos) (Jn7 sem f) := by
  obtain ⟨ps,c,hok⟩ := c.cal
  refine ⟨PE.imp (Jl5 c hr hk hg ha.pa hdb he hpl) fun σ H Q h => ?_⟩
  obtain ⟨Γ,μ,env,S,d,S',hK,R,e,q⟩ := h
  obtain ⟨⟨d0,S0⟩,e0,e⟩ := bind_some e
  obtain ⟨t,et,e⟩ := bind_some e
  cases e
  obtain ⟨⟨as,S1⟩,e1,e⟩ := bind_some e0
  obtain ⟨ds,e2,e⟩ := bind_some e
  obtain ⟨r,e3,e⟩ := bind_some e
  refine ⟨Γ,μ,env,S,as,S1,hK,R,e1,fun vs μ1 H1 x1 R1 r1 => ?_⟩
  show spP X.K sem ps.length (vs ++ []) H1 Q E0
  rw [List.append_nil]
  dsimp only at e e2
  by_cases hc:(Jav as || newD r) = true
  · rw [if_pos hc] at e
    cases e
    obtain ⟨hl,hp⟩ := hok _ _ e3
    obtain ⟨N,rs,cN⟩ := lend hK R1 (m0 := []) r1 e2 (fun i ds a hs => ⟨hs,fun _ => Jfu⟩) (fun a z => by simp at z) (newD d0) hc
    refine ⟨N,_,d0,?_,rs,e3,fun v H' sm rv => ?_⟩
    · rw [rs.length,hl]
    obtain ⟨a,xs,h1,h2,h3,h4,h5⟩ := Jx1 et rv
    obtain ⟨R2,x2⟩ := R1.adopt sm (h1.1 rfl) h2 h4 h3
    exact q v _ H' (x1.trans x2) R2 (h5 _ _ (by rw [R1.slen]; simp))
  · rw [if_neg hc] at e; cases e
theorem Ja9 {sem:MSem} (c:CalM X.prog X.w X.K X.mg X.base x k sem) (hr:Room k' X.A) (hk:k ≤ k') (hg:Gl X x) (ha:JA X (e :: es) f)
    (hdb:(x == ("__debug__":Str)) = false := by decide) (he:starEach (e :: es) X.env = (false,eval e X.env) :: starEach es X.env := by rfl) (hpl:(backTo pos (starEach es X.env)).any (·.1) = false := by rfl) :
    JE X (.Call (.Name x p) (e :: es) [] pos) (Ja4 sem f) := by
  obtain ⟨ps,c,hok⟩ := c.cal
  refine ⟨PE.imp (Jl5 c hr hk hg ha.pa hdb he hpl) fun σ H Q h => ?_⟩
  obtain ⟨Γ,μ,env,S,d,S',hK,R,e,q⟩ := h
  obtain ⟨⟨as,S1⟩,e1,e⟩ := bind_some e
  refine ⟨Γ,μ,env,S,as,S1,hK,R,e1,fun vs μ1 H1 x1 R1 r1 => ?_⟩
  show spM X.K sem ps.length (vs ++ []) H1 Q E0
  rw [List.append_nil]
  dsimp only at e
  split at e
  · rename_i i rest
    split at e
    · rename_i cs hcs
      obtain ⟨ns,e4,e⟩ := bind_some e
      obtain ⟨ds,e2,e⟩ := bind_some e
      obtain ⟨⟨r,ms⟩,e3,e⟩ := bind_some e
      dsimp only at e
      by_cases hc:(Jav rest || newD r) = true
      · rw [if_pos hc] at e
        cases e
        obtain ⟨hl,hp⟩ := hok _ _ _ e3
        have ecs := Jd7 e4
        subst ecs
        cases r1 with
        | @cons v0 _ us _ r0 rr =>
          obtain ⟨a,xs,rfl,h1,h2,h3⟩ := VR.refI R1 r0 hcs
          have ex := h3.Jpj
          subst ex
          have hi:i < S1.length := (List.getElem?_eq_some_iff.mp hcs).1
          obtain ⟨N,rs,cN⟩ := lend hK R1 (S0 := S1.set i none) (m0 := [a]) rr e2 (fun j es b hs => by
            have hj:i ≠ j := fun z => by
              subst z
              rw [List.getElem?_set_self hi] at hs; cases hs
            rw [List.getElem?_set_ne hj] at hs
            exact ⟨hs,fun hm z => hj (R1.inj i j a h1 (by rw [show a = b from (Jj7.mp z).symm]; exact hm))⟩) (fun b z => by
              have:b = a := by simpa using z
              rw [this]; exact List.mem_of_getElem? h1) (newD d) hc
          refine ⟨N,a,us,ns,_,d,ms,rfl,?_,h2,rs,e3,fun v H' sm ha' rv => ?_⟩
          · rw [List.length_cons,rs.length,hl]
          obtain ⟨R2,x2⟩ := R1.put h1 (VRs.ints ms)
          have sm2:Same (upd H1 a (.lst (ms.map V.int))) H' := fun b o hb => by
            by_cases z:b = a
            · rw [z,Jbj] at hb; cases hb; rw [z]; exact ha'
            · rw [Jbg z] at hb; exact sm b o z hb
          obtain ⟨R3,x3⟩ := R2.grow sm2
          exact q v μ1 H' (x1.trans (x2.trans x3)) R3 (home hK R1 (fun a z => R3.live z) hp cN rv)
      · rw [if_neg hc] at e; cases e
    · cases e
  · cases e
end
end VS
end
section
set_option Elab.async false
set_option maxRecDepth 10000
set_option linter.all false
namespace VS
open PySem PySem.Spec L2
theorem OpR.or {X:Cx} {f:Value → Value → Sem Value} {r r':R2} (h:OpR X f r) (h':OpR X f r'):OpR X f (fun x y H Q => r x y H Q ∨ r' x y H Q) := fun pins s σ H x y v u Q I rx ry q => q.elim (fun z => h pins s σ H x y v u Q I rx ry z) fun z => h' pins s σ H x y v u Q I rx ry z
theorem Jd1.or {X:Cx} {f:Value} {r r':List V → Hp → VK → Prop} (h:Jd1 X f r) (h':Jd1 X f r'):Jd1 X f (fun xs H Q => r xs H Q ∨ r' xs H Q) := fun pins s σ H xs us Q I rs q => q.elim (fun z => h pins s σ H xs us Q I rs z) fun z => h' pins s σ H xs us Q I rs z
def oI (c:Int → Int → Bool) (g:Int → Int → D) (_:Store):D → D → Option D
  | .int i,.int j => if c i j = true then some (g i j) else none
  | _,_ => none
def yes2 (_ _:Int):Bool := true
theorem Jyc {K:PySem.W.Frag} {C:Int → Int → Prop} {c:Int → Int → Bool} (g:Int → Int → Int) (hc:∀ i j,c i j = true → C i j):Sem2 K (rI C fun i j => .int (g i j)) (oI c fun i j => .int (g i j)) := by
  intro Γ μ σ H env S x y dx dy d hK R rx ry e Q q
  unfold oI at e
  split at e
  · rename_i i j
    by_cases h:c i j = true
    · rw [if_pos h] at e; cases e; cases rx; cases ry
      exact ⟨i,j,rfl,rfl,hc i j h,q _ H (Same.refl H) (.int _)⟩
    · rw [if_neg h] at e; cases e
  · cases e
theorem JAo {K:PySem.W.Frag} (g:Int → Int → Int):Sem2 K (rI0 fun i j => .int (g i j)) (oI yes2 fun i j => .int (g i j)) := by
  intro Γ μ σ H env S x y dx dy d hK R rx ry e Q q
  unfold oI at e
  split at e
  · rename_i i j
    rw [if_pos (show yes2 i j = true from rfl)] at e; cases e; cases rx; cases ry
    exact ⟨i,j,rfl,rfl,q _ H (Same.refl H) (.int _)⟩
  · cases e
theorem Jqb {K:PySem.W.Frag} (g:Int → Int → Bool):Sem2 K (rI0 fun i j => .bl (g i j)) (oI yes2 fun i j => .bl (g i j)) := by
  intro Γ μ σ H env S x y dx dy d hK R rx ry e Q q
  unfold oI at e
  split at e
  · rename_i i j
    rw [if_pos (show yes2 i j = true from rfl)] at e; cases e; cases rx; cases ry
    exact ⟨i,j,rfl,rfl,q _ H (Same.refl H) (.bl _)⟩
  · cases e
def oSub := oI yes2 fun i j => .int (i - j)
def cMul (i j:Int):Bool := (decide (-(2 ^ 64) < i) && decide (i < 2 ^ 64)) || (decide (-(2 ^ 64) < j) && decide (j < 2 ^ 64))
def cDiv (_ j:Int):Bool := decide (0 < j) && decide (j < 2 ^ 64)
def cMod (_ j:Int):Bool := decide (0 < j)
def cPow (i j:Int):Bool := decide (0 ≤ j) && decide (j ≤ 1000000) && decide (i.natAbs < 2 ^ 64)
def oDiv := oI cDiv fun i j => .int (i / j)
def oMod := oI cMod fun i j => .int (i % j)
def oPow := oI cPow fun i j => .int (i ^ j.toNat)
def oLt := oI yes2 fun i j => .bl (decide (i < j))
def oLe := oI yes2 fun i j => .bl (decide (i ≤ j))
def oGt := oI yes2 fun i j => .bl (decide (j < i))
def oGe := oI yes2 fun i j => .bl (decide (j ≤ i))
theorem Jc1 {K:PySem.W.Frag}:Sem2 K (rI0 fun i j => .int (i - j)) oSub := JAo _
theorem Jh0 {K:PySem.W.Frag}:Sem2 K (rI (fun _ j => 0 < j ∧ j < 2 ^ 64) fun i j => .int (i / j)) oDiv := Jyc _ fun i j h => by simpa [cDiv] using h
theorem Jhy {K:PySem.W.Frag}:Sem2 K (rI (fun _ j => 0 < j) fun i j => .int (i % j)) oMod := Jyc _ fun i j h => by simpa [cMod] using h
theorem Jd2 {K:PySem.W.Frag}:Sem2 K (rI CPow fun i j => .int (i ^ j.toNat)) oPow := Jyc _ fun i j h => by simpa [cPow,CPow,and_assoc] using h
theorem Jlg {K:PySem.W.Frag}:Sem2 K (rI0 fun i j => .bl (decide (i < j))) oLt := Jqb _
theorem Jp9 {K:PySem.W.Frag}:Sem2 K (rI0 fun i j => .bl (decide (i ≤ j))) oLe := Jqb _
theorem Jqa {K:PySem.W.Frag}:Sem2 K (rI0 fun i j => .bl (decide (j < i))) oGt := Jqb _
theorem Jsg {K:PySem.W.Frag}:Sem2 K (rI0 fun i j => .bl (decide (j ≤ i))) oGe := Jqb _
def oNeg (_:Store):D → Option D
  | .int i => some (.int (-i))
  | _ => none
theorem Jou {K:PySem.W.Frag}:Sem1 K (rU fun i => .int (-i)) oNeg := by
  intro Γ μ σ H env S x dx d hK R rx e Q q
  unfold oNeg at e
  split at e
  · cases e; cases rx; exact ⟨_,rfl,q _ H (Same.refl H) (.int _)⟩
  · cases e
def oAdd (S:Store):D → D → Option D
  | .int i,.int j => some (.int (i + j))
  | .tup a,.tup b => if a.length + b.length ≤ 1000000 then some (.tup (a ++ b)) else none
  | .str x,.str y => if x.length + y.length ≤ 1000000 then some (.str (x ++ y)) else none
  | x,y => (listOf S x).bind fun a => (listOf S y).bind fun b => if a.length + b.length ≤ 1000000 then some (.lst true (a ++ b)) else none
def JAt:R2 := fun x y H Q => ∃ (a b:Addr) (xs ys:List V),x = .ref a ∧ y = .ref b ∧ H a = some (.tup xs) ∧ H b = some (.tup ys) ∧ xs.length + ys.length ≤ sizeLine ∧ ∀ p H',Same H H' → H' p = some (.tup (xs ++ ys)) → Q (.ref p) H'
def JDm:R2 := fun x y H Q => ∃ i j,x = .str i ∧ y = .str j ∧ i.length + j.length ≤ sizeLine ∧ Q (.str (i ++ j)) H
def JAu:R2 := fun x y H Q => (rI0 fun i j => .int (i + j)) x y H Q ∨ JAt x y H Q ∨ JDm x y H Q ∨ rCat x y H Q
theorem Jbi {X:Cx}:OpR X (binaryOp .Add) JAu := OpR.or JBm (OpR.or Jyz (OpR.or Jrk JBl))
theorem Jbh {K:PySem.W.Frag}:Sem2 K JAu oAdd := by
  intro Γ μ σ H env S x y dx dy d hK R rx ry e Q q
  unfold oAdd at e
  split at e
  · cases e; cases rx; cases ry; exact .inl ⟨_,_,rfl,rfl,q _ H (Same.refl H) (.int _)⟩
  · rename_i a b
    by_cases h:a.length + b.length ≤ 1000000
    · rw [if_pos h] at e; cases e
      cases rx with
      | @tup p xs _ hp rp =>
        cases ry with
        | @tup p2 ys _ hp2 rp2 =>
          refine .inr (.inl ⟨p,p2,xs,ys,rfl,rfl,hp,hp2,by rw [rp.length,rp2.length]; exact Nat.le_of_lt (big h),fun t H' sm ht => ?_⟩)
          obtain ⟨R2,x2⟩ := R.grow sm
          exact q _ H' sm (.tup ht ((rp.append rp2).ext x2))
    · rw [if_neg h] at e; cases e
  · rename_i a b
    by_cases h:a.length + b.length ≤ 1000000
    · rw [if_pos h] at e; cases e; cases rx; cases ry
      exact .inr (.inr (.inl ⟨_,_,rfl,rfl,Nat.le_of_lt (big h),q _ H (Same.refl H) (.str _)⟩))
    · rw [if_neg h] at e; cases e
  · obtain ⟨a,e1,e⟩ := bind_some e
    obtain ⟨b,e2,e⟩ := bind_some e
    by_cases h:a.length + b.length ≤ 1000000
    · rw [if_pos h] at e; cases e
      obtain ⟨p,xs,rfl,hp,rp⟩ := VR.list R rx e1
      obtain ⟨p2,ys,rfl,hp2,rp2⟩ := VR.list R ry e2
      refine .inr (.inr (.inr ⟨p,p2,xs,ys,rfl,rfl,hp,hp2,by rw [rp.length,rp2.length]; exact Nat.le_of_lt (big h),fun t ht => ?_⟩))
      obtain ⟨R2,x2⟩ := R.grow (Jby ht (.lst (xs ++ ys)))
      exact q _ _ (Jby ht _) (.lst (R.ok ht true) (R.dead ht) Jbj ((rp.append rp2).ext x2))
    · rw [if_neg h] at e; cases e
def oMul (S:Store):D → D → Option D
  | .int i,.int j => if cMul i j = true then some (.int (i * j)) else none
  | .tup a,.int k => if a ≠ [] ∧ 1 ≤ k ∧ k < 2 ^ 60 ∧ a.length * k.toNat ≤ 1000000 then some (.tup (List.replicate k.toNat a).flatten) else none
  | x,.int k => (listOf S x).bind fun a => if -(2 ^ 63) ≤ k ∧ k < 2 ^ 63 ∧ a.length * k.toNat ≤ 1000000 then some (.lst true (List.replicate k.toNat a).flatten) else none
  | _,_ => none
def JAs:R2 := fun x y H Q => (rI CMul fun i j => .int (i * j)) x y H Q ∨ JAr x y H Q ∨ rRep x y H Q
theorem Jgj {X:Cx}:OpR X (binaryOp .Mult) JAs := OpR.or JBh (OpR.or Jyw JBf)
theorem Jgg {K:PySem.W.Frag}:Sem2 K JAs oMul := by
  intro Γ μ σ H env S x y dx dy d hK R rx ry e Q q
  unfold oMul at e
  split at e
  · rename_i i j
    by_cases h:cMul i j = true
    · rw [if_pos h] at e; cases e; cases rx; cases ry
      exact .inl ⟨_,_,rfl,rfl,by simpa [cMul,CMul] using h,q _ H (Same.refl H) (.int _)⟩
    · rw [if_neg h] at e; cases e
  · rename_i a k
    by_cases h:a ≠ [] ∧ 1 ≤ k ∧ k < 2 ^ 60 ∧ a.length * k.toNat ≤ 1000000
    · rw [if_pos h] at e; cases e
      cases ry
      cases rx with
      | @tup p xs _ hp rp =>
        have hl := rp.length
        refine .inr (.inl ⟨p,k,xs,rfl,rfl,hp,fun z => h.1 (List.length_eq_zero_iff.mp (by rw [← hl,z]; rfl)),h.2.1,h.2.2.1,by rw [hl]; exact Nat.le_of_lt (big h.2.2.2),fun t H' sm ht => ?_⟩)
        obtain ⟨R2,x2⟩ := R.grow sm
        exact q _ H' sm (.tup ht ((rp.rep _).ext x2))
    · rw [if_neg h] at e; cases e
  · rename_i k _ _
    obtain ⟨a,e1,e⟩ := bind_some e
    by_cases h:-(2 ^ 63) ≤ k ∧ k < 2 ^ 63 ∧ a.length * k.toNat ≤ 1000000
    · rw [if_pos h] at e; cases e
      cases ry
      obtain ⟨p,xs,rfl,hp,rp⟩ := VR.list R rx e1
      refine .inr (.inr ⟨p,k,xs,rfl,rfl,hp,h.1,h.2.1,by rw [rp.length]; exact Nat.le_of_lt (big h.2.2),fun t ht => ?_⟩)
      obtain ⟨R2,x2⟩ := R.grow (Jby ht (.lst (List.replicate k.toNat xs).flatten))
      exact q _ _ (Jby ht _) (.lst (R.ok ht true) (R.dead ht) Jbj ((rp.rep _).ext x2))
    · rw [if_neg h] at e; cases e
  · cases e
def oIx (S:Store):D → D → Option D
  | x,.int i => (Jax S x).bind fun ds => atI ds i
  | _,_ => none
theorem Jz6 {Γ:Fr} {μ:Mu} {H:Hp} {xs:List V} {ds:List D} {i:Int} {d:D} (r:VRs Γ μ H xs ds) (h:atI ds i = some d):∃ x,atI xs i = some x ∧ VR Γ μ H x d := by
  unfold atI at h ⊢
  obtain ⟨j,e1,e2⟩ := bind_some h
  obtain ⟨x,f1,f2⟩ := r.get e2
  exact ⟨x,by rw [r.length,e1]; exact f1,f2⟩
theorem Jar {K:PySem.W.Frag}:Sem2 K (rIx K) oIx := by
  intro Γ μ σ H env S x y dx dy d hK R rx ry e Q q
  unfold oIx at e
  split at e
  · rename_i i
    obtain ⟨ds,e1,e⟩ := bind_some e
    cases ry
    obtain ⟨a,xs,rfl,hq,rs⟩ := VR.seq hK R rx e1
    obtain ⟨v,f1,f2⟩ := Jz6 rs e
    rcases hq with hq | hq
    · exact .inl ⟨a,xs,i,v,rfl,rfl,hq,f1,q _ H (Same.refl H) f2⟩
    · exact .inr (.inl ⟨a,xs,i,v,rfl,rfl,hq,f1,q _ H (Same.refl H) f2⟩)
  · cases e
def cut (xs:List D) (lo hi:Option Int):List D := (xs.drop (HT.sIx xs.length 0 lo)).take (HT.sIx xs.length xs.length hi - HT.sIx xs.length 0 lo)
def oSl (S:Store) (x:D) (lo hi:Option Int):Option D := match x with
  | .tup ds => some (.tup (cut ds lo hi))
  | x => (Jax S x).map fun ds => .lst true (cut ds lo hi)
def rSlG:V → Option Int → Option Int → Hp → VK → Prop := fun x lo hi H Q => ∃ (a:Addr) (xs:List V),x = .ref a ∧ H a = some (.tup xs) ∧ ∀ p H',Same H H' → H' p = some (.tup (cutV xs lo hi)) → Q (.ref p) H'
def rSl2 (K:PySem.W.Frag):V → Option Int → Option Int → Hp → VK → Prop := fun x lo hi H Q => rSlG x lo hi H Q ∨ rSlL K x lo hi H Q
theorem Jg4 {X:Cx}:SlR X (rSl2 X.K) := SlR.or Jx7 Jx8
theorem Jg5 {K:PySem.W.Frag}:JCq K (rSl2 K) oSl := by
  intro Γ μ σ H env S x dx d l h hK R rx e Q q
  have key:∀ {xs:List V} {ds:List D} {H':Hp},VRs Γ μ H' xs ds → VRs Γ μ H' (cutV xs l h) (cut ds l h) := fun r => by
    unfold cutV cut
    rw [r.length]
    exact (r.drop _).take _
  unfold oSl at e
  split at e
  · cases e
    cases rx with
    | @tup p xs _ hp rp =>
      refine .inl ⟨p,xs,rfl,hp,fun t H' sm ht => ?_⟩
      obtain ⟨R2,x2⟩ := R.grow sm
      exact q _ H' sm (.tup ht (key (rp.ext x2)))
  · rename_i ht
    obtain ⟨ds,e1,e2⟩ := map_some e
    subst e2
    rcases VR.seqL hK R rx e1 with ⟨es,z⟩ | ⟨a,xs,rfl,hq,rs⟩
    · exact absurd z (ht es)
    · refine .inr ⟨a,xs,rfl,hq,fun t htt => ?_⟩
      obtain ⟨R2,x2⟩ := R.grow (Jby htt (.lst (cutV xs l h)))
      exact q _ _ (Jby htt _) (.lst (R.ok htt true) (R.dead htt) Jbj (key (rs.ext x2)))
def bLen (S:Store):List D → Option D
  | [x] => (Jax S x).map fun ds => .int ds.length
  | _ => none
theorem Jdx {K:PySem.W.Frag}:SemC K (rLen K) bLen := by
  intro Γ μ σ H env S xs ds d hK R rs e Q q
  unfold bLen at e
  split at e
  · obtain ⟨es,e1,e2⟩ := map_some e
    subst e2
    obtain ⟨v,rfl,r⟩ := rs.one
    obtain ⟨a,xs,rfl,hq,rx⟩ := VR.seq hK R r e1
    refine ⟨a,xs,rfl,hq,?_⟩
    rw [rx.length]
    exact q _ H (Same.refl H) (.int _)
  · cases e
def bTup (S:Store):List D → Option D
  | [x] => (Jax S x).map fun ds => .tup ds
  | _ => none
theorem Jdy {K:PySem.W.Frag}:SemC K (Ju5 K) bTup := by
  intro Γ μ σ H env S xs ds d hK R rs e Q q
  unfold bTup at e
  split at e
  · rename_i x
    obtain ⟨es,e1,e2⟩ := map_some e
    subst e2
    obtain ⟨v,rfl,r⟩ := rs.one
    rcases VR.seqL hK R r e1 with ⟨fs,rfl⟩ | ⟨a,xs,rfl,hq,rx⟩
    · cases r with
      | @tup p xs _ hp rp => cases e1; exact ⟨p,xs,rfl,.inr ⟨SqT.of hp,q _ H (Same.refl H) (.tup hp rp)⟩⟩
    · refine ⟨a,xs,rfl,.inl ⟨hq,fun l hl => ?_⟩⟩
      obtain ⟨R2,x2⟩ := R.grow (Jby hl (.tup xs))
      exact q _ _ (Jby hl _) (.tup Jbj (rx.ext x2))
  · cases e
def bAll (S:Store):List D → Option D
  | [x] => (listOf S x).bind fun ds => (boolsOf ds).map fun bs => .bl (bs.all id)
  | _ => none
where boolsOf:List D → Option (List Bool)
  | [] => some []
  | .bl b :: r => (boolsOf r).map (b :: ·)
  | _ => none
@[simp] theorem Jii (bs:List Bool):bAll.boolsOf (bs.map D.bl) = some bs := by
  induction bs with
  | nil => rfl
  | cons b r ih => rw [List.map_cons,bAll.boolsOf,ih]; rfl
theorem Jk2 {Γ:Fr} {μ:Mu} {H:Hp}:∀ {xs:List V} {ds:List D} {bs:List Bool},VRs Γ μ H xs ds → bAll.boolsOf ds = some bs → xs = bs.map V.bl
  | _,[],_,.nil,h => by cases h; rfl
  | _,.bl b :: r,bs,.cons q t,h => by
    rw [bAll.boolsOf] at h
    obtain ⟨cs,e1,e2⟩ := map_some h
    subst e2
    cases q
    rw [List.map_cons,Jk2 t e1]
  | _,.non :: _,_,_,h => by cases h
  | _,.int _ :: _,_,_,h => by cases h
  | _,.str _ :: _,_,_,h => by cases h
  | _,.ty _ :: _,_,_,h => by cases h
  | _,.tup _ :: _,_,_,h => by cases h
  | _,.lst _ _ :: _,_,_,h => by cases h
  | _,.ref _ :: _,_,_,h => by cases h
  | _,.scr _ :: _,_,_,h => by cases h
  | _,.emp :: _,_,_,h => by cases h
def rAll (K:PySem.W.Frag):List V → Hp → VK → Prop := fun xs H Q => ∃ (p:Addr) (bs:List Bool),xs = [.ref p] ∧ SqL K H p (bs.map V.bl) ∧ Q (.bl (bs.all id)) H
theorem Jkf {K:PySem.W.Frag}:SemC K (rAll K) bAll := by
  intro Γ μ σ H env S xs ds d hK R rs e Q q
  unfold bAll at e
  split at e
  · obtain ⟨es,e1,e⟩ := bind_some e
    obtain ⟨bs,e2,e3⟩ := map_some e
    subst e3
    obtain ⟨v,rfl,r⟩ := rs.one
    obtain ⟨a,xs,rfl,ha,rx⟩ := VR.list R r e1
    have := Jk2 rx e2
    subst this
    exact ⟨a,bs,rfl,SqL.of ha,q _ H (Same.refl H) (.bl _)⟩
  · cases e
def Jg0 (_:Store):List D → Option D
  | [.int i,.int j] => some (.int (if j > i then j else i))
  | _ => none
def Jjn (_:Store):List D → Option D
  | [.int i,.int j] => some (.int (if j < i then j else i))
  | _ => none
def bAbs (_:Store):List D → Option D
  | [.int i] => some (.int (if i < 0 then -i else i))
  | _ => none
def bInt (_:Store):List D → Option D
  | [.int i] => some (.int i)
  | [.bl k] => some (.int (if k then 1 else 0))
  | _ => none
theorem Jhi {K:PySem.W.Frag}:SemC K (fun xs H Q => ∃ i j,xs = [.int i,.int j] ∧ Q (.int (if j > i then j else i)) H) Jg0 := by
  intro Γ μ σ H env S xs ds d hK R rs e Q q
  unfold Jg0 at e
  split at e
  · cases e
    obtain ⟨v,u,rfl,r1,r2⟩ := rs.two
    cases r1; cases r2
    exact ⟨_,_,rfl,q _ H (Same.refl H) (.int _)⟩
  · cases e
theorem Jj6 {K:PySem.W.Frag}:SemC K (fun xs H Q => ∃ i j,xs = [.int i,.int j] ∧ Q (.int (if j < i then j else i)) H) Jjn := by
  intro Γ μ σ H env S xs ds d hK R rs e Q q
  unfold Jjn at e
  split at e
  · cases e
    obtain ⟨v,u,rfl,r1,r2⟩ := rs.two
    cases r1; cases r2
    exact ⟨_,_,rfl,q _ H (Same.refl H) (.int _)⟩
  · cases e
theorem Jsh {K:PySem.W.Frag}:SemC K (fun xs H Q => ∃ i,xs = [.int i] ∧ Q (.int (if i < 0 then -i else i)) H) bAbs := by
  intro Γ μ σ H env S xs ds d hK R rs e Q q
  unfold bAbs at e
  split at e
  · cases e
    obtain ⟨v,rfl,r1⟩ := rs.one
    cases r1
    exact ⟨_,rfl,q _ H (Same.refl H) (.int _)⟩
  · cases e
theorem Jyb {K:PySem.W.Frag}:SemC K (fun xs H Q => (∃ i,xs = [.int i] ∧ Q (.int i) H) ∨ ∃ k,xs = [.bl k] ∧ Q (.int (if k then 1 else 0)) H) bInt := by
  intro Γ μ σ H env S xs ds d hK R rs e Q q
  unfold bInt at e
  split at e
  · cases e
    obtain ⟨v,rfl,r1⟩ := rs.one
    cases r1
    exact .inl ⟨_,rfl,q _ H (Same.refl H) (.int _)⟩
  · cases e
    obtain ⟨v,rfl,r1⟩ := rs.one
    cases r1
    exact .inr ⟨_,rfl,q _ H (Same.refl H) (.int _)⟩
  · cases e
def maxI:List Int → Option Int
  | [] => none
  | n :: r => some (r.foldl (fun a b => if a < b then b else a) n)
def minI:List Int → Option Int
  | [] => none
  | n :: r => some (r.foldl (fun a b => if b < a then b else a) n)
theorem Jzx (r:List Int):∀ n:Int,(r.foldl (fun a b => if a < b then b else a) n = n ∨ r.foldl (fun a b => if a < b then b else a) n ∈ r) ∧ n ≤ r.foldl (fun a b => if a < b then b else a) n ∧ ∀ m ∈ r,m ≤ r.foldl (fun a b => if a < b then b else a) n := by
  induction r with
  | nil => intro n; exact ⟨.inl rfl,Int.le_refl _,fun m h => by simp at h⟩
  | cons x r ih =>
    intro n
    rw [List.foldl_cons]
    by_cases h:n < x
    · rw [if_pos h]
      obtain ⟨h1,h2,h3⟩ := ih x
      refine ⟨.inr (by rcases h1 with z | z; · rw [z]; exact List.mem_cons_self
                       · exact List.mem_cons_of_mem _ z),by omega,fun m hm => ?_⟩
      rcases List.mem_cons.mp hm with z | z
      · rw [z]; exact h2
      · exact h3 m z
    · rw [if_neg h]
      obtain ⟨h1,h2,h3⟩ := ih n
      refine ⟨by rcases h1 with z | z; · exact .inl z
                 · exact .inr (List.mem_cons_of_mem _ z),h2,fun m hm => ?_⟩
      rcases List.mem_cons.mp hm with z | z
      · rw [z]; omega
      · exact h3 m z
theorem Jzw (r:List Int):∀ n:Int,(r.foldl (fun a b => if b < a then b else a) n = n ∨ r.foldl (fun a b => if b < a then b else a) n ∈ r) ∧ r.foldl (fun a b => if b < a then b else a) n ≤ n ∧ ∀ m ∈ r,r.foldl (fun a b => if b < a then b else a) n ≤ m := by
  induction r with
  | nil => intro n; exact ⟨.inl rfl,Int.le_refl _,fun m h => by simp at h⟩
  | cons x r ih =>
    intro n
    rw [List.foldl_cons]
    by_cases h:x < n
    · rw [if_pos h]
      obtain ⟨h1,h2,h3⟩ := ih x
      refine ⟨.inr (by rcases h1 with z | z; · rw [z]; exact List.mem_cons_self
                       · exact List.mem_cons_of_mem _ z),by omega,fun m hm => ?_⟩
      rcases List.mem_cons.mp hm with z | z
      · rw [z]; exact h2
      · exact h3 m z
    · rw [if_neg h]
      obtain ⟨h1,h2,h3⟩ := ih n
      refine ⟨by rcases h1 with z | z; · exact .inl z
                 · exact .inr (List.mem_cons_of_mem _ z),h2,fun m hm => ?_⟩
      rcases List.mem_cons.mp hm with z | z
      · rw [z]; omega
      · exact h3 m z
theorem Jpf {ns:List Int} {m:Int} (h:maxI ns = some m):m ∈ ns ∧ ∀ n ∈ ns,n ≤ m := by
  cases ns with
  | nil => cases h
  | cons x r =>
    cases h
    obtain ⟨h1,h2,h3⟩ := Jzx r x
    refine ⟨by rcases h1 with z | z; · rw [z]; exact List.mem_cons_self
               · exact List.mem_cons_of_mem _ z,fun n hn => ?_⟩
    rcases List.mem_cons.mp hn with z | z
    · rw [z]; exact h2
    · exact h3 n z
theorem Jta {ns:List Int} {m:Int} (h:minI ns = some m):m ∈ ns ∧ ∀ n ∈ ns,m ≤ n := by
  cases ns with
  | nil => cases h
  | cons x r =>
    cases h
    obtain ⟨h1,h2,h3⟩ := Jzw r x
    refine ⟨by rcases h1 with z | z; · rw [z]; exact List.mem_cons_self
               · exact List.mem_cons_of_mem _ z,fun n hn => ?_⟩
    rcases List.mem_cons.mp hn with z | z
    · rw [z]; exact h2
    · exact h3 n z
def Jom (S:Store):List D → Option D
  | [x] => (listOf S x).bind fun ds => (intsOf ds).bind fun ns => (maxI ns).map .int
  | _ => none
def Jwu (S:Store):List D → Option D
  | [x] => (listOf S x).bind fun ds => (intsOf ds).bind fun ns => (minI ns).map .int
  | _ => none
theorem Jp8 {K:PySem.W.Frag}:SemC K (fun xs H Q => ∃ (p:Addr) (ns:List Int),xs = [.ref p] ∧ SqL K H p (ns.map V.int) ∧ ns ≠ [] ∧ ∀ m,m ∈ ns → (∀ n ∈ ns,n ≤ m) → Q (.int m) H) Jom := by
  intro Γ μ σ H env S xs ds d hK R rs e Q q
  unfold Jom at e
  split at e
  · obtain ⟨es,e1,e⟩ := bind_some e
    obtain ⟨ns,e2,e⟩ := bind_some e
    obtain ⟨m,e3,e4⟩ := map_some e
    subst e4
    obtain ⟨v,rfl,r⟩ := rs.one
    obtain ⟨a,xs,rfl,ha,rx⟩ := VR.list R r e1
    have := Jd7 e2
    subst this
    have := rx.Jpj
    subst this
    refine ⟨a,ns,rfl,SqL.of ha,(fun z => by rw [z] at e3; cases e3),fun m' h1 h2 => ?_⟩
    obtain ⟨g1,g2⟩ := Jpf e3
    have:m' = m := Int.le_antisymm (g2 _ h1) (h2 _ g1)
    rw [this]
    exact q _ H (Same.refl H) (.int _)
  · cases e
theorem Ju0 {K:PySem.W.Frag}:SemC K (fun xs H Q => ∃ (p:Addr) (ns:List Int),xs = [.ref p] ∧ SqL K H p (ns.map V.int) ∧ ns ≠ [] ∧ ∀ m,m ∈ ns → (∀ n ∈ ns,m ≤ n) → Q (.int m) H) Jwu := by
  intro Γ μ σ H env S xs ds d hK R rs e Q q
  unfold Jwu at e
  split at e
  · obtain ⟨es,e1,e⟩ := bind_some e
    obtain ⟨ns,e2,e⟩ := bind_some e
    obtain ⟨m,e3,e4⟩ := map_some e
    subst e4
    obtain ⟨v,rfl,r⟩ := rs.one
    obtain ⟨a,xs,rfl,ha,rx⟩ := VR.list R r e1
    have := Jd7 e2
    subst this
    have := rx.Jpj
    subst this
    refine ⟨a,ns,rfl,SqL.of ha,(fun z => by rw [z] at e3; cases e3),fun m' h1 h2 => ?_⟩
    obtain ⟨g1,g2⟩ := Jta e3
    have:m' = m := Int.le_antisymm (h2 _ g1) (g2 _ h1)
    rw [this]
    exact q _ H (Same.refl H) (.int _)
  · cases e
section
variable {X:Cx} {x:Str} {p pos:Pos} {e:Expr} {es:List Expr} {T:String} {f:ASem} {r:List V → Hp → VK → Prop} {g:Store → List D → Option (List D)}
end
end VS
end
section
set_option Elab.async false
set_option maxRecDepth 10000
set_option linter.all false
namespace VS
open PySem PySem.Spec L2
mutual
def toP:D → Option PyData
  | .non => some .none
  | .bl b => some (.bool b)
  | .int i => some (.int i)
  | .str x => some (.str x)
  | .tup ds => (toPL ds).map .tuple
  | .lst _ ds => (toPL ds).map .list
  | .emp => some (.dict [])
  | .ref _ => none
  | .scr _ => none
  | .ty _ => none
def toPL:List D → Option (List PyData)
  | [] => some []
  | d :: r => (toP d).bind fun x => (toPL r).bind fun xs => some (x :: xs)
end
mutual
theorem VR.tr {Γ:Fr} {μ:Mu} {H:Hp}:∀ {v:V} {d:D} {p:PyData},VR Γ μ H v d → toP d = some p → Tr (fun _ => True) H v p
  | _,_,_,.non,h => by rw [toP] at h; cases h; exact .non
  | _,_,_,.bl b,h => by rw [toP] at h; cases h; exact .bl b
  | _,_,_,.int i,h => by rw [toP] at h; cases h; exact .int i
  | _,_,_,.str x,h => by rw [toP] at h; cases h; exact .str x
  | _,_,_,.ty _,h => by rw [toP] at h; cases h
  | _,_,_,.tup hb t,h => by
    rw [toP] at h
    obtain ⟨ps,e1,e2⟩ := map_some h
    subst e2
    exact .tup trivial hb (VRs.tr t e1)
  | _,_,_,.lst _ _ hb t,h => by
    rw [toP] at h
    obtain ⟨ps,e1,e2⟩ := map_some h
    subst e2
    exact .lst trivial hb (VRs.tr t e1)
  | _,_,_,.ref _ _,h => by rw [toP] at h; cases h
  | _,_,_,.scrK _,h => by rw [toP] at h; cases h
  | _,_,_,.scrR _ _,h => by rw [toP] at h; cases h
  | _,_,_,.emp _ hb,h => by rw [toP] at h; cases h; exact .dct trivial hb
theorem VRs.tr {Γ:Fr} {μ:Mu} {H:Hp}:∀ {v:List V} {d:List D} {p:List PyData},VRs Γ μ H v d → toPL d = some p → Jbw (fun _ => True) H v p
  | _,_,_,.nil,h => by rw [toPL] at h; cases h; exact .nil
  | _,_,_,.cons r t,h => by
    rw [toPL] at h
    obtain ⟨x,e1,h⟩ := bind_some h
    obtain ⟨xs,e2,h⟩ := bind_some h
    cases h
    exact .cons (VR.tr r e1) (VRs.tr t e2)
end
def seeP (S:Store) (d:D):Option PyData := (den 0 S d).bind toP
theorem VR.see {Γ:Fr} {μ:Mu} {σ:St} {H:Hp} {env:Env} {S:Store} {v:V} {d:D} {p:PyData} (R:Rep Γ μ σ H env S) (r:VR Γ μ H v d) (h:seeP S d = some p):Tr (fun _ => True) H v p := by
  obtain ⟨e,e1,e2⟩ := bind_some h
  have r1:VR ⟨Γ.K,fun _ => none,fun _ => True,[]⟩ [] H v e := VR.den (Γ' := ⟨Γ.K,fun _ => none,fun _ => True,[]⟩) R rfl (fun i ds a _ hs => ⟨hs,fun z => ⟨Jfu,⟨fun _ => rfl,.inl trivial⟩⟩⟩) (fun m a _ _ => ⟨fun _ => rfl,.inl trivial⟩) (fun a o _ _ => Jfu) r e1
  exact r1.tr e2
def eqP (neg:Bool) (S:Store) (x y:D):Option D := (seeP S x).bind fun p => (seeP S y).bind fun q => if (SeqAt.shaped p && SeqAt.shaped q) = true then some (.bl (neg ^^ PyData.eqv p q)) else none
def oEq (neg:Bool) (S:Store):D → D → Option D
  | .int i,.int j => some (.bl (neg ^^ decide (i = j)))
  | x,y => eqP neg S x y
def rEqD:R2 := fun x y H Q => ∃ (N N':Addr → Prop) (d e:PyData),Tr N H x d ∧ Tr N' H y e ∧ SeqAt.shaped d = true ∧ SeqAt.shaped e = true ∧ Q (.bl (PyData.eqv d e)) H
def rNeD:R2 := fun x y H Q => ∃ (N N':Addr → Prop) (d e:PyData),Tr N H x d ∧ Tr N' H y e ∧ SeqAt.shaped d = true ∧ SeqAt.shaped e = true ∧ Q (.bl (!PyData.eqv d e)) H
def rEq2:R2 := fun x y H Q => rEq x y H Q ∨ rEqD x y H Q
def rNe2:R2 := fun x y H Q => rNe x y H Q ∨ rNeD x y H Q
theorem Jg7 {X:Cx} {k:Nat} (hr:Room k X.A):OpR X (compareOp .Eq) rEq2 := OpR.or JDv (JBk hr)
theorem Jf8 {X:Cx} {k:Nat} (hr:Room k X.A):OpR X (compareOp .NotEq) rNe2 := OpR.or JDu (JBg hr)
theorem Jg6 {K:PySem.W.Frag}:Sem2 K rEq2 (oEq false) := by
  intro Γ μ σ H env S x y dx dy d hK R rx ry e Q q
  unfold oEq at e
  split at e
  · rename_i i j
    cases e; cases rx; cases ry
    refine .inl ⟨rfl,?_⟩
    have:decide (V.int i = V.int j) = decide (i = j) := by simp
    rw [this]
    exact q _ H (Same.refl H) (by simpa using VR.bl (decide (i = j)))
  · unfold eqP at e
    obtain ⟨p,e1,e⟩ := bind_some e
    obtain ⟨p2,e2,e⟩ := bind_some e
    by_cases h:(SeqAt.shaped p && SeqAt.shaped p2) = true
    · rw [if_pos h] at e
      cases e
      rw [Bool.and_eq_true] at h
      exact .inr ⟨_,_,p,p2,rx.see R e1,ry.see R e2,h.1,h.2,q _ H (Same.refl H) (by simpa using VR.bl (PyData.eqv p p2))⟩
    · rw [if_neg h] at e; cases e
theorem Jf2 {K:PySem.W.Frag}:Sem2 K rNe2 (oEq true) := by
  intro Γ μ σ H env S x y dx dy d hK R rx ry e Q q
  unfold oEq at e
  split at e
  · rename_i i j
    cases e; cases rx; cases ry
    refine .inl ⟨rfl,?_⟩
    have:decide (V.int i = V.int j) = decide (i = j) := by simp
    rw [this]
    exact q _ H (Same.refl H) (by simpa using VR.bl (!decide (i = j)))
  · unfold eqP at e
    obtain ⟨p,e1,e⟩ := bind_some e
    obtain ⟨p2,e2,e⟩ := bind_some e
    by_cases h:(SeqAt.shaped p && SeqAt.shaped p2) = true
    · rw [if_pos h] at e
      cases e
      rw [Bool.and_eq_true] at h
      exact .inr ⟨_,_,p,p2,rx.see R e1,ry.see R e2,h.1,h.2,q _ H (Same.refl H) (by simpa using VR.bl (!PyData.eqv p p2))⟩
    · rw [if_neg h] at e; cases e
def oIsN (neg:Bool) (S:Store):D → D → Option D
  | .non,.non => some (.bl (!neg))
  | .ref i,.non => ((S[i]?).join).map fun _ => .bl neg
  | .bl a,.bl b => some (.bl (neg ^^ decide (a = b)))
  | .int _,.non => some (.bl neg)
  | .bl _,.non => some (.bl neg)
  | .str _,.non => some (.bl neg)
  | .tup _,.non => some (.bl neg)
  | .lst _ _,.non => some (.bl neg)
  | _,_ => none
def rIs2:R2 := fun x y H Q => (y = .non ∧ Q (.bl (decide (x = .non))) H) ∨ ∃ (c d:Bool),x = .bl c ∧ y = .bl d ∧ Q (.bl (decide (c = d))) H
theorem JBj {X:Cx}:OpR X (compareOp .Is) rIs2 := OpR.or JBi Jve
theorem JAn {K:PySem.W.Frag}:Sem2 K rIs2 (oIsN false) := by
  intro Γ μ σ H env S x y dx dy d hK R rx ry e Q q
  unfold oIsN at e
  split at e
  · cases e; cases rx; cases ry; exact .inl ⟨rfl,by simpa using q _ H (Same.refl H) (.bl true)⟩
  · obtain ⟨ds,e1,e2⟩ := map_some e
    subst e2
    obtain ⟨a,xs,rfl,_⟩ := VR.refI R rx (join_some e1)
    cases ry; exact .inl ⟨rfl,by simpa using q _ H (Same.refl H) (.bl false)⟩
  · rename_i a b
    cases e; cases rx; cases ry; exact .inr ⟨a,b,rfl,rfl,by simpa using q _ H (Same.refl H) (by simpa using VR.bl (decide (a = b)))⟩
  · cases e; cases rx; cases ry; exact .inl ⟨rfl,by simpa using q _ H (Same.refl H) (.bl false)⟩
  · cases e; cases rx; cases ry; exact .inl ⟨rfl,by simpa using q _ H (Same.refl H) (.bl false)⟩
  · cases e; cases rx; cases ry; exact .inl ⟨rfl,by simpa using q _ H (Same.refl H) (.bl false)⟩
  · cases e; cases rx; cases ry; exact .inl ⟨rfl,by simpa using q _ H (Same.refl H) (.bl false)⟩
  · cases e; cases rx; cases ry; exact .inl ⟨rfl,by simpa using q _ H (Same.refl H) (.bl false)⟩
  · cases e
def oIn (neg:Bool) (S:Store):D → D → Option D
  | .int i,y => (Jax S y).bind fun ds => (intsOf ds).map fun ns => .bl (neg ^^ ns.any fun n => n == i)
  | _,_ => none
theorem Jqy (i:Int):∀ ns:List Int,(ns.map V.int).all Jmn = true ∧ inV (.int i) (ns.map V.int) = ns.any fun n => n == i
  | [] => ⟨rfl,rfl⟩
  | n :: r => by
    obtain ⟨h1,h2⟩ := Jqy i r
    refine ⟨by rw [List.map_cons,List.all_cons,h1]; rfl,?_⟩
    unfold inV at h2 ⊢
    rw [List.map_cons,List.any_cons,List.any_cons,h2]
    rfl
theorem Jwx {K:PySem.W.Frag}:Sem2 K (rIn K false) (oIn false) := by
  intro Γ μ σ H env S x y dx dy d hK R rx ry e Q q
  unfold oIn at e
  split at e
  · rename_i i
    obtain ⟨ds,e1,e⟩ := bind_some e
    obtain ⟨ns,e2,e3⟩ := map_some e
    subst e3
    cases rx
    obtain ⟨a,xs,rfl,hq,rs⟩ := VR.seq hK R ry e1
    have := Jd7 e2
    subst this
    have := rs.Jpj
    subst this
    obtain ⟨h1,h2⟩ := Jqy i ns
    exact ⟨a,_,rfl,hq,rfl,h1,by rw [h2]; exact q _ H (Same.refl H) (by simpa using VR.bl (ns.any fun n => n == i))⟩
  · cases e
def oTab (D:List (PyData × PyData)) (_:Store):VS.D → Option VS.D
  | .int i => some (.bl (lookup (.int i) D).isSome)
  | _ => none
def Jql (D:List (PyData × PyData)) (_:Store):VS.D → Option VS.D
  | .int i => match lookup (.int i) D with | some (.int j) => some (.int j) | _ => none
  | _ => none
section
variable {X:Cx} {a:Expr} {fa:ESem} {x:Str} {p pos:Pos} {dM:Addr} {D:List (PyData × PyData)}
theorem JAc {K:PySem.W.Frag} {σ:St} {H:Hp} {Q:VK} (h:wpE K (eUn (oTab D) fa) σ H Q):tOp (fun x y H Q => ∃ (i:Int),x = .int i ∧ y = .ref dM ∧ Q (.bl (lookup (.int i) D).isSome) H) (wpE K fa) (tC (.ref dM)) σ H Q := by
  obtain ⟨Γ,μ,env,S,d,S',hK,R,e,q⟩ := h
  obtain ⟨⟨y,S1⟩,e1,e⟩ := bind_some e
  obtain ⟨z,e3,e⟩ := map_some e
  cases e
  refine ⟨Γ,μ,env,S,y,S1,hK,R,e1,fun v1 μ1 H1 x1 R1 r1 => ?_⟩
  dsimp only at e3
  unfold oTab at e3
  split at e3
  · cases e3; cases r1; exact ⟨_,rfl,rfl,q _ μ1 H1 x1 R1 (.bl _)⟩
  · cases e3
theorem Jv0 (hT:∀ h,X.K.In h → PyProof.Rows.IntTab X.prog X.w h dM D) (ha:JE X a fa) (hg:Gl X x) (hm:X.mg x = some (.ref dM)) (hk:behindInMarks .In (.Name x p) = false := by with_unfolding_all rfl) (hd:(x == ("__debug__":Str)) = false := by decide):JE X (.Compare a [.In] [.Name x p] pos) (eUn (oTab D) fa) :=
  ⟨PE.imp (Js0 (Jvf hT) ha.pe (Jsy (v := .ref dM) hg hm rfl hd) hk) fun _ _ _ h => JAc h⟩
theorem Jvz (hT:∀ h,X.K.In h → PyProof.Rows.IntTab X.prog X.w h dM D) (hb:JE X a fa) (hg:Gl X x) (hm:X.mg x = some (.ref dM)) (hs:Jmz a) (hd:(x == ("__debug__":Str)) = false := by decide)
    (hgo:∀ r,letTemporaryGo (.Name x p) (.ref dM) r = pure () := by intro _; with_unfolding_all rfl):JE X (.Subscript (.Name x p) a pos) (eUn (Jql D) fa) :=
  ⟨PE.imp (Jvb hT (Jsy (v := .ref dM) hg hm rfl hd) hb.pe hs hgo) fun σ H Q h => by
    obtain ⟨Γ,μ,env,S,d,S',hK,R,e,q⟩ := h
    obtain ⟨⟨y,S1⟩,e1,e⟩ := bind_some e
    obtain ⟨z,e3,e⟩ := map_some e
    cases e
    refine ⟨Γ,μ,env,S,y,S1,hK,R,e1,fun v1 μ1 H1 x1 R1 r1 => ?_⟩
    dsimp only at e3
    unfold Jql at e3
    split at e3
    · split at e3
      · rename_i hl
        cases e3; cases r1; exact ⟨_,_,rfl,rfl,hl,q _ μ1 H1 x1 R1 (.int _)⟩
      · cases e3
    · cases e3⟩
end
def isT (T:String) (d:PyData):Bool := match T with
  | "str" => (match d with | .str _ => true | _ => false)
  | T => isTy T d
theorem Jzc {K:PySem.W.Frag} (d:PyData):PySem.W.kitOne K (.type (tyName d)) (.type "str") = some (isT "str" d) := by
  cases d with
  | none => exact Jce (a := "NoneType") (r := false) (by decide +kernel)
  | bool _ => exact Jce (a := "bool") (r := false) (by decide +kernel)
  | int _ => exact Jce (a := "int") (r := false) (by decide +kernel)
  | str _ => exact Jce (a := "str") (r := true) (by decide +kernel)
  | list _ => exact Jce (a := "list") (r := false) (by decide +kernel)
  | tuple _ => exact Jce (a := "tuple") (r := false) (by decide +kernel)
  | dict _ => exact Jce (a := "dict") (r := false) (by decide +kernel)
def bIsT (S:Store):List D → Option D
  | [x,.ty "int"] => (seeP S x).map fun p => .bl (isT "int" p)
  | [x,.ty "bool"] => (seeP S x).map fun p => .bl (isT "bool" p)
  | [x,.ty "tuple"] => (seeP S x).map fun p => .bl (isT "tuple" p)
  | [x,.ty "list"] => (seeP S x).map fun p => .bl (isT "list" p)
  | [x,.ty "str"] => (seeP S x).map fun p => .bl (isT "str" p)
  | [x,.tup [.ty "tuple",.ty "list"]] => (seeP S x).bind fun p => if noDict p = true then some (.bl (isSeq p)) else none
  | _ => none
def rIsT (K:PySem.W.Frag):List V → Hp → VK → Prop := fun xs H Q => ∃ (x:V) (T:String) (t:Value) (b:Bool),xs = [x,.ty T] ∧ TyOf K H x t ∧ PySem.W.kitOne K t (.type T) = some b ∧ Q (.bl b) H
def JDk:List V → Hp → VK → Prop := fun xs H Q => ∃ (N:Addr → Prop) (x:V) (d:PyData) (p:Addr),xs = [x,.ref p] ∧ H p = some (.tup [.ty "tuple",.ty "list"]) ∧ Tr N H x d ∧ noDict d = true ∧ Q (.bl (isSeq d)) H
def Jye (K:PySem.W.Frag):List V → Hp → VK → Prop := fun xs H Q => rIsT K xs H Q ∨ JDk xs H Q
theorem Jgu {X:Cx}:Jd1 X (.builtin "isinstance") (Jye X.K) := Jd1.or Jpo Jmu
theorem Jhz {K:PySem.W.Frag}:SemC K (Jye K) bIsT := by
  intro Γ μ σ H env S xs ds d hK R rs e Q q
  have go:∀ (T:String) (x:D),(∀ p:PyData,PySem.W.kitOne K (.type (tyName p)) (.type T) = some (isT T p)) → ds = [x,.ty T] → ((seeP S x).map fun p => D.bl (isT T p)) = some d → Jye K xs H Q := fun T x hk hd e' => by
    subst hd
    obtain ⟨p,e1,e2⟩ := map_some e'
    subst e2
    obtain ⟨v,u,rfl,r1,r2⟩ := rs.two
    cases r2
    exact .inl ⟨v,T,_,_,rfl,(r1.see R e1).ty,hk p,q _ H (Same.refl H) (.bl _)⟩
  unfold bIsT at e
  split at e
  · exact go "int" _ Jzd rfl e
  · exact go "bool" _ Jvx rfl e
  · exact go "tuple" _ kit_tuple rfl e
  · exact go "list" _ Jvw rfl e
  · exact go "str" _ Jzc rfl e
  · obtain ⟨p,e1,e⟩ := bind_some e
    by_cases h:noDict p = true
    · rw [if_pos h] at e
      cases e
      obtain ⟨v,u,rfl,r1,r2⟩ := rs.two
      cases r2 with
      | @tup a ys _ ha ry =>
        cases ry with
        | cons q1 t1 =>
          cases t1 with
          | cons q2 t2 =>
            cases t2; cases q1; cases q2
            exact .inr ⟨_,v,p,a,rfl,ha,r1.see R e1,h,q _ H (Same.refl H) (.bl _)⟩
    · rw [if_neg h] at e; cases e
  · cases e
def Ji8 (ns:List Int):List Int := (SetP.once ns).mergeSort fun a b => decide (a ≤ b)
theorem Jrd {ns ms:List Int} (h:ms.Perm (SetP.once ns)) (s:ms.Pairwise (· ≤ ·)):ms = Ji8 ns := by
  have h2:(Ji8 ns).Perm (SetP.once ns) := List.mergeSort_perm _ _
  have s2:(Ji8 ns).Pairwise (· ≤ ·) := by
    have := List.pairwise_mergeSort (le := fun a b:Int => decide (a ≤ b)) (by intro a b c h1 h2; simp at *; omega) (by intro a b; simp; omega) (SetP.once ns)
    exact this.imp fun h => by simpa using h
  exact List.Perm.eq_of_pairwise (fun a b _ _ h1 h2 => Int.le_antisymm h1 h2) s s2 (h.trans h2.symm)
def Jmp (a:ESem):ESem := fun env S => (a env S).bind fun p => (listOf p.2 p.1).bind fun ds => (intsOf ds).bind fun ns => if ns.length < 1000 ∧ (SetP.once ns).length < 64 then some (.lst true ((Ji8 ns).map .int),p.2) else none
theorem Jru {X:Cx} {a:Expr} {f:ESem} {p p2 pos pos2:Pos} (hc:X.calm = true) (ha:JE X a f) (hg:Gl X "sorted") (hm:X.mg "sorted" = none) (hg2:Gl X "set") (hm2:X.mg "set" = none) 
    (he:starEach [a] X.env = [(false,eval a X.env)] := by rfl) (he2:starEach [.Call (.Name "set" p2) [a] [] pos2] X.env = [(false,eval (.Call (.Name "set" p2) [a] [] pos2) X.env)] := by rfl):JE X (.Call (.Name "sorted" p) [.Call (.Name "set" p2) [a] [] pos2] [] pos) (Jmp f) :=
  ⟨PE.imp (Jqi (Jk9 hc) hg hm Juc (Jl6 (Jip (Jwq hc) hg2 hm2 JCk (Jl6 ha.pe Jqj he) (he := he) (hpl := rfl)) Jqj he2) (he := he2) (hpl := rfl)) fun σ H Q h => by
    obtain ⟨Γ,μ,env,S,d,S',hK,R,e,q⟩ := h
    obtain ⟨⟨y,S1⟩,e1,e⟩ := bind_some e
    obtain ⟨ds,e2,e⟩ := bind_some e
    obtain ⟨ns,e3,e⟩ := bind_some e
    by_cases hl:ns.length < 1000 ∧ (SetP.once ns).length < 64
    · rw [if_pos hl] at e
      cases e
      refine ⟨Γ,μ,env,S,y,_,hK,R,e1,fun v1 μ1 H1 x1 R1 r1 => ?_⟩
      obtain ⟨b,xs,rfl,hb,rb⟩ := VR.list R1 r1 e2
      have := Jd7 e3
      subst this
      have := rb.Jpj
      subst this
      refine ⟨b,ns,rfl,SqL.of hb,hl.1,fun s hs => ?_⟩
      obtain ⟨R2,x2⟩ := R1.grow (Jby hs (setO X.prog X.w s (SetP.once ns)))
      refine ⟨s,_,rfl,Jbj,hl.2,fun l ms hl' hp hsrt => ?_⟩
      have := Jrd hp hsrt
      subst this
      obtain ⟨R3,x3⟩ := R2.grow (Jby hl' (.lst ((Ji8 ns).map V.int)))
      exact q _ μ1 _ (x1.trans (x2.trans x3)) R3 (.lst (R2.ok hl' true) (R2.dead hl') Jbj (VRs.ints _))
    · rw [if_neg hl] at e; cases e⟩
def Jf9 (a:ASem):ESem := fun env S => (a env S).bind fun p => match p.1 with
  | [.int j] => if r62 j ∧ j.toNat ≤ 1000 then some (.lst true (upD 0 j.toNat),p.2) else none
  | [.int i,.int j] => if r62 i ∧ r62 j ∧ (j - i).toNat ≤ 1000 then some (.lst true (upD i (j - i).toNat),p.2) else none
  | _ => none
theorem Jxy {Γ:Fr} {μ:Mu} {H:Hp} (lo:Int) (n:Nat):VRs Γ μ H ((upTo lo n).map V.int) (upD lo n) := by
  have:upD lo n = (upTo lo n).map D.int := by unfold upD L2.upTo; rw [List.map_map]; rfl
  rw [this]; exact VRs.ints _
def Jqg:List V → Hp → VK → Prop := fun xs H Q => (∃ (n:Int),xs = [.int n] ∧ ∀ p,H p = none → Q (.ref p) (upd H p (.rng 0 n))) ∨ ∃ (a b:Int),xs = [.int a,.int b] ∧ ∀ p,H p = none → Q (.ref p) (upd H p (.rng a b))
theorem Jod {X:Cx}:Jd1 X (.type "range") Jqg := Jd1.or Jpn Jpm
theorem Jm0 {K:PySem.W.Frag} {f:ASem} {σ:St} {H:Hp} {Q:VK} (h:∃ Γ μ env S ds S',Γ.K = K ∧ Rep Γ μ σ H env S ∧ f env S = some (ds,S') ∧ ∃ lo n,((∃ j,ds = [.int j] ∧ r62 j ∧ j.toNat ≤ 1000 ∧ lo = 0 ∧ n = j.toNat) ∨ ∃ i j,ds = [.int i,.int j] ∧ r62 i ∧ r62 j ∧ (j - i).toNat ≤ 1000 ∧ lo = i ∧ n = (j - i).toNat) ∧
      ∀ μ' H',Ext μ H μ' H' → Rep Γ μ' σ H' env S' → ∀ l,H' l = none → Q (.ref l) (upd H' l (.lst ((upTo lo n).map V.int)))) :
    tCB (fun xs H Q => ∃ (r:Addr) (lo hi:Int),xs = [.ref r] ∧ H r = some (.rng lo hi) ∧ -(2 ^ 62) ≤ lo ∧ lo < 2 ^ 62 ∧ -(2 ^ 62) ≤ hi ∧ hi < 2 ^ 62 ∧ (hi - lo).toNat ≤ 1000 ∧ ∀ l,H l = none → Q (.ref l) (upd H l (.lst ((upTo lo (hi - lo).toNat).map V.int)))) (JAj (tCB Jqg (wpA K f)) tNil) σ H Q := by
  obtain ⟨Γ,μ,env,S,ds,S',hK,R,e1,lo,n,hc,q⟩ := h
  refine ⟨Γ,μ,env,S,ds,S',hK,R,e1,fun vs μ1 H1 x1 R1 r1 => ?_⟩
  rcases hc with ⟨j,rfl,h1,h2,rfl,rfl⟩ | ⟨i,j,rfl,h1,h2,h3,rfl,rfl⟩
  · obtain ⟨v,rfl,r⟩ := r1.one
    cases r
    refine .inl ⟨j,rfl,fun p hp => ⟨p,0,j,rfl,Jbj,by decide,by decide,h1.1,h1.2,by simpa using h2,fun l hl => ?_⟩⟩
    obtain ⟨R2,x2⟩ := R1.grow (Jby hp (.rng 0 j))
    have := q μ1 _ (x1.trans x2) R2 l hl
    simpa using this
  · obtain ⟨v,u,rfl,r,r'⟩ := r1.two
    cases r
    cases r'
    refine .inr ⟨lo,j,rfl,fun p hp => ⟨p,lo,j,rfl,Jbj,h1.1,h1.2,h2.1,h2.2,h3,fun l hl => ?_⟩⟩
    obtain ⟨R2,x2⟩ := R1.grow (Jby hp (.rng lo j))
    exact q μ1 _ (x1.trans x2) R2 l hl
section
variable {X:Cx} {a:Expr} {as:List Expr} {f:ASem} {p p2 pos pos2:Pos}
theorem Jhd (hc:X.calm = true) (ha:JA X (a :: as) f) (hg:Gl X "list") (hm:X.mg "list" = none) (hg2:Gl X "range") (hm2:X.mg "range" = none)
    (he:starEach (a :: as) X.env = (false,eval a X.env) :: starEach as X.env := by rfl) (hpl:(backTo pos2 (starEach as X.env)).any (·.1) = false := by rfl) (he2:starEach [.Call (.Name "range" p2) (a :: as) [] pos2] X.env = [(false,eval (.Call (.Name "range" p2) (a :: as) [] pos2) X.env)] := by rfl) :
    JE X (.Call (.Name "list" p) [.Call (.Name "range" p2) (a :: as) [] pos2] [] pos) (Jf9 f) :=
  ⟨PE.imp (Jip (Jla hc) hg hm Jud (Jl6 (Jip Jod hg2 hm2 Jws ha.pa (he := he) (hpl := hpl)) Jqj he2) (he := he2) (hpl := rfl)) fun σ H Q h => by
    obtain ⟨Γ,μ,env,S,d,S',hK,R,e,q⟩ := h
    obtain ⟨⟨ds,S1⟩,e1,e⟩ := bind_some e
    refine Jm0 ⟨Γ,μ,env,S,ds,S1,hK,R,e1,?_⟩
    have fin:∀ lo n,d = .lst true (upD lo n) → S1 = S' → ∀ μ' H',Ext μ H μ' H' → Rep Γ μ' σ H' env S1 → ∀ l,H' l = none → Q (.ref l) (upd H' l (.lst ((upTo lo n).map V.int))) := fun lo n hd hs μ' H' x' R' l hl => by
      subst hd hs
      obtain ⟨R2,x2⟩ := R'.grow (Jby hl (.lst ((upTo lo n).map V.int)))
      exact q _ μ' _ (x'.trans x2) R2 (.lst (R'.ok hl true) (R'.dead hl) Jbj (Jxy lo n))
    dsimp only at e
    split at e
    · rename_i j
      by_cases hj:r62 j ∧ j.toNat ≤ 1000
      · rw [if_pos hj] at e; cases e
        exact ⟨0,_,.inl ⟨j,rfl,hj.1,hj.2,rfl,rfl⟩,fin _ _ rfl rfl⟩
      · rw [if_neg hj] at e; cases e
    · rename_i i j
      by_cases hj:r62 i ∧ r62 j ∧ (j - i).toNat ≤ 1000
      · rw [if_pos hj] at e; cases e
        exact ⟨i,_,.inr ⟨i,j,rfl,hj.1,hj.2.1,hj.2.2,rfl,rfl⟩,fin _ _ rfl rfl⟩
      · rw [if_neg hj] at e; cases e
    · cases e⟩
end
end VS
end
section
set_option Elab.async false
set_option maxRecDepth 10000
set_option linter.all false
namespace VS
open PySem PySem.Spec L2
def Jp7 (K:PySem.W.Frag):Sp := fun vs H Q _ => ∃ (l:Addr) (ns:List Int),vs = [.ref l] ∧ Only H ∧ ns.length ≤ 63 ∧ SqL K H l (ns.map V.int) ∧ ∀ H',Q (.bl true) H'
theorem JBv {K:PySem.W.Frag} {sem:PSem} (h:∀ ns:List Int,ns.length ≤ 63 → sem [.scr ns] = some (.bl true)):∀ vs H Q E,Jp7 K vs H Q E → spP K sem 1 vs H Q E := by
  intro vs H Q E ⟨l,ns,e,hO,hl,hq,q⟩
  subst e
  refine ⟨fun _ => False,[.scr ns],.bl true,rfl,.cons ?_ .nil,h ns hl,fun v H' sm rv => ?_⟩
  · rcases hq with hq | hq
    · rcases hq with hq | ⟨o,hq⟩
      · rcases hO l with z | ⟨o,xs,z⟩
        · rw [z] at hq; cases hq
        · rw [z] at hq; cases hq
      · exact .scrR Jfu hq
    · exact .scrK fun H' => .inr hq
  · cases rv; exact q H'
end VS
end
section
set_option Elab.async false
set_option maxRecDepth 10000
set_option linter.all false
namespace VS
open PySem L2
theorem Jbu (a b:SSem) (env:VS.Env) (S:Store):VS.sSeq a b env S = (a env S).bind fun p => match p.1 with | .nx => b p.2.1 p.2.2 | f => some (f,p.2.1,p.2.2) := rfl
theorem Jau (i:Nat) (a:ESem) (env:VS.Env) (S:Store):VS.sSet i a env S = (a env S).bind fun p => some (.nx,env.set i (some p.1),p.2) := rfl
theorem Ja0 (a:ESem) (env:VS.Env) (S:Store):VS.sRet a env S = (a env S).bind fun p => some (.ret p.1,env,p.2) := rfl
theorem Jb9 (c:TSem) (a b:SSem) (env:VS.Env) (S:Store):VS.sIf c a b env S = (c env S).bind fun p => if p.1 = true then a env p.2 else b env p.2 := rfl
theorem Jh3 (a:ESem) (g:GSem) (env:VS.Env) (S:Store):VS.sAsg a g env S = (a env S).bind fun p => (g p.1 env).bind fun e => some (.nx,e,p.2) := rfl
theorem Jff (a:ESem) (env:VS.Env) (S:Store):VS.sExp a env S = (a env S).bind fun p => some (.nx,env,p.2) := rfl
theorem Jbe (env:VS.Env) (S:Store):VS.sNil  env S = some (.nx,env,S) := rfl
theorem Jnb (env:VS.Env) (S:Store):VS.Jnc  env S = none := rfl
theorem Jfz (it:ISem) (g:GSem) (b:SSem) (env:VS.Env) (S:Store):VS.sFor it g b env S = (it env S).bind fun p => loop p.1.2 g b p.1.1 env p.2 := rfl
theorem Jf6 (v o i:ESem) (env:VS.Env) (S:Store):VS.Jjq v o i env S = (v env S).bind fun p => (o env p.2).bind fun q => (i env q.2).bind fun r => match q.1,r.1 with
  | .ref j,.int k => (match r.2[j]? with
    | some (some ds) => (ixN ds.length k).bind fun n => some (.nx,env,r.2.set j (some (ds.set n p.1)))
    | _ => none)
  | _,_ => none := rfl
theorem Jad (i:Nat) (env:VS.Env) (S:Store):VS.eVar i env S = (env[i]?.join).map fun d => (d,S) := rfl
theorem Jbc (d:D) (env:VS.Env) (S:Store):VS.eC d env S = some (d,S) := rfl
theorem Jap (g:Store → D → D → Option D) (a b:ESem) (env:VS.Env) (S:Store):VS.eOp g a b env S = (a env S).bind fun p => (b env p.2).bind fun q => (g q.2 p.1 q.1).map fun d => (d,q.2) := rfl
theorem Jiy (g:Store → D → Option D) (a:ESem) (env:VS.Env) (S:Store):VS.eUn g a env S = (a env S).bind fun p => (g p.2 p.1).map fun d => (d,p.2) := rfl
theorem Jaj (env:VS.Env) (S:Store):VS.aNil  env S = some ([],S) := rfl
theorem Jae (a:ESem) (r:ASem) (env:VS.Env) (S:Store):VS.Jab a r env S = (a env S).bind fun p => (r env p.2).bind fun q => some (p.1 :: q.1,q.2) := rfl
theorem Jbv (g:Store → List D → Option D) (a:ASem) (env:VS.Env) (S:Store):VS.eCB g a env S = (a env S).bind fun p => (g p.2 p.1).map fun d => (d,p.2) := rfl
theorem Jmq (a b:ESem) (env:VS.Env) (S:Store):VS.eAnd a b env S = (a env S).bind fun p => match p.1 with | .bl true => b env p.2 | .bl false => some (.bl false,p.2) | _ => none := rfl
theorem Jtz (a:ESem) (env:VS.Env) (S:Store):VS.eNot a env S = (a env S).bind fun p => match p.1 with | .bl c => some (.bl (!c),p.2) | _ => none := rfl
theorem Jn9 (g g':Store → D → D → Option D) (a b c:ESem) (env:VS.Env) (S:Store):VS.Jlr g g' a b c env S = (a env S).bind fun p => (b env p.2).bind fun q => (g q.2 p.1 q.1).bind fun z => match z with
  | .bl true => (c env q.2).bind fun r => (g' r.2 q.1 r.1).map fun d => (d,r.2)
  | .bl false => some (.bl false,q.2)
  | _ => none := rfl
theorem Jaw (a:ESem) (env:VS.Env) (S:Store):VS.tVal a env S = (a env S).bind fun p => match p.1 with | .bl c => some (c,p.2) | _ => none := rfl
theorem Jlx (a b:TSem) (env:VS.Env) (S:Store):VS.tAnd a b env S = (a env S).bind fun p => if p.1 = true then b env p.2 else some (false,p.2) := rfl
theorem Jg1 (a b:TSem) (env:VS.Env) (S:Store):VS.tOr a b env S = (a env S).bind fun p => if p.1 = true then some (true,p.2) else b env p.2 := rfl
theorem Jg2 (a:TSem) (env:VS.Env) (S:Store):VS.tNot a env S = (a env S).bind fun p => some (!p.1,p.2) := rfl
theorem Jgm (env:VS.Env) (S:Store):VS.Je6  env S = some (none,S) := rfl
theorem Jgl (a:ESem) (env:VS.Env) (S:Store):VS.Je5 a env S = (a env S).bind fun p => match p.1 with | .int i => some (some i,p.2) | _ => none := rfl
theorem Jky (g:Store → D → Option Int → Option Int → Option D) (a:ESem) (l h:OSem) (env:VS.Env) (S:Store):VS.eSl g a l h env S = (a env S).bind fun p => (l env p.2).bind fun q => (h env q.2).bind fun r => (g r.2 p.1 q.1 r.1).map fun d => (d,r.2) := rfl
theorem Ja3 (a:ASem) (env:VS.Env) (S:Store):VS.eFrz a env S = (a env S).bind fun p => some (.lst true p.1,p.2) := rfl
theorem Jjk (a:ASem) (env:VS.Env) (S:Store):VS.eSto a env S = (a env S).bind fun p => some (.ref p.2.length,p.2 ++ [some p.1]) := rfl
theorem Jc7 (a:ASem) (env:VS.Env) (S:Store):VS.eTup a env S = (a env S).bind fun p => some (.tup p.1,p.2) := rfl
theorem Jca (sem:PSem) (a:ASem) (env:VS.Env) (S:Store):VS.Jam sem a env S = (a env S).bind fun p => (denL 0 p.2 p.1).bind fun ds => (sem (ageL ds)).bind fun r => if (Jav p.1 || newD r) = true then some (r,p.2) else none := rfl
theorem Ja6 (sem:MSem) (a:ASem) (env:VS.Env) (S:Store):VS.Ja4 sem a env S = (a env S).bind fun p => match p.1 with
  | .ref i :: rest => (match p.2[i]? with
    | some (some cs) => (intsOf cs).bind fun ns => (denL 0 (p.2.set i none) rest).bind fun ds => (sem ns (ageL ds)).bind fun r => if (Jav rest || newD r.1) = true then some (r.1,p.2.set i (some (r.2.map D.int))) else none
    | _ => none)
  | _ => none := rfl
theorem Jty (sem:PSem) (a:ASem) (env:VS.Env) (S:Store):VS.Jn7 sem a env S = (Jam sem a env S).bind fun p => (thaw p.2.length p.1).bind fun q => some (q.1,p.2 ++ [some q.2]) := rfl
theorem Jiz (g:Store → D → List D → Option (D × Store)) (o:ESem) (a:ASem) (env:VS.Env) (S:Store):VS.Jn8 g o a env S = (o env S).bind fun p => if (listOf p.2 p.1).isSome then (a env p.2).bind fun q => g q.2 p.1 q.1 else none := rfl
theorem Jei (a:ASem) (env:VS.Env) (S:Store):VS.Jf9 a env S = (a env S).bind fun p => match p.1 with
  | [.int j] => if r62 j ∧ j.toNat ≤ 1000 then some (.lst true (upD 0 j.toNat),p.2) else none
  | [.int i,.int j] => if r62 i ∧ r62 j ∧ (j - i).toNat ≤ 1000 then some (.lst true (upD i (j - i).toNat),p.2) else none
  | _ => none := rfl
theorem Jfn (a:ESem) (env:VS.Env) (S:Store):VS.Jmp a env S = (a env S).bind fun p => (listOf p.2 p.1).bind fun ds => (intsOf ds).bind fun ns => if ns.length < 1000 ∧ (SetP.once ns).length < 64 then some (.lst true ((Ji8 ns).map .int),p.2) else none := rfl
theorem Jcz (a:ESem) (env:VS.Env) (S:Store):VS.iSeq a env S = (a env S).bind fun p => (Jax p.2 p.1).map fun ds => ((ds,idOf ds p.1),p.2) := rfl
theorem Jqz (a:ASem) (env:VS.Env) (S:Store):VS.Jrw a env S = (a env S).bind fun p => match p.1 with
  | [.tup xs,.tup ys] => some ((zipD xs ys,[]),p.2)
  | [x,y] => (listOf p.2 x).bind fun xs => (listOf p.2 y).bind fun ys => some ((zipD xs ys,idOf xs x ++ idOf ys y),p.2)
  | _ => none := rfl
theorem Jts (a:ASem) (env:VS.Env) (S:Store):VS.Jq0 a env S = (a env S).bind fun p => match p.1 with
  | [x] => (listOf p.2 x).bind fun xs => some ((Jj3 0 xs,idOf xs x),p.2)
  | _ => none := rfl
theorem Jck (np n:Nat) (f:SSem) (ds:List D):VS.runP np n f ds = if ds.length = np then (f (ds.map some ++ List.replicate (n - ds.length) none) []).bind fun p => match p.1 with | .ret d => den 0 p.2.2 d | .nx => some .non | _ => none else none := rfl
theorem Jdd (np n:Nat) (f:SSem) (ns:List Int) (ds:List D):VS.runM np n f ns ds = if ds.length + 1 = np then (f (some (.ref 0) :: (ds.map some ++ List.replicate (n - 1 - ds.length) none)) [some (ns.map D.int)]).bind fun p => match p.2.2[0]? with
  | some (some cs) => (intsOf cs).bind fun ms => (match p.1 with | .ret d => (den 1 p.2.2 d).map fun r => (r,ms) | .nx => some (.non,ms) | _ => none)
  | _ => none
  else none := rfl
theorem Jct (i:Nat) (d:D) (env:VS.Env):Pat.sem (.nm i) d env = some (env.set i (some d)) := by rw [Pat.sem]
theorem Jf7 (ps:List Pat) (ds:List D) (env:VS.Env):Pat.sem (.tp ps) (.tup ds) env = semS ps ds env := by rw [Pat.sem]
theorem Jdv (env:VS.Env):semS [] [] env = some env := by rw [semS]
theorem Jc5 (p:Pat) (ps:List Pat) (d:D) (ds:List D) (env:VS.Env):semS (p :: ps) (d :: ds) env = (Pat.sem p d env).bind fun e => semS ps ds e := by rw [semS]
@[simp] theorem JC1 (S:Store):calm [] S = True := by simp [calm]
@[simp] theorem JC0 (i:Nat) (ds:List D) (S:Store):calm [(i,ds)] S = (S[i]? = some (some ds)) := by simp [calm]
@[simp] theorem JEa {α:Type} (S:List α) (a:α):(S ++ [a])[S.length]? = some a := by simp
@[simp] theorem JDi {α:Type} (S:List α) (a b:α):(S ++ [a]).set S.length b = S ++ [b] := by simp
theorem Jmj {n k:Nat} (h:k < n):ixN n (k:Int) = some k := by
  unfold ixN
  rw [if_pos (by omega),if_pos (by omega)]; simp
@[simp] theorem JD0 {n:Nat}:ixN (n + 1) 0 = some 0 := Jmj (k := 0) (by omega)
@[simp] theorem JDz {n:Nat}:ixN (n + 2) 1 = some 1 := Jmj (k := 1) (by omega)
@[simp] theorem JDy {n:Nat}:ixN (n + 3) 2 = some 2 := Jmj (k := 2) (by omega)
@[simp] theorem JDx {n:Nat}:ixN (n + 4) 3 = some 3 := Jmj (k := 3) (by omega)
@[simp] theorem JEf {α:Type} (a:α) (l:List α):atI (a :: l) 0 = some a := by unfold atI; rw [List.length_cons,JD0]; rfl
@[simp] theorem JEe {α:Type} (a b:α) (l:List α):atI (a :: b :: l) 1 = some b := by unfold atI; rw [List.length_cons,List.length_cons,JDz]; rfl
@[simp] theorem JEd {α:Type} (a b c:α) (l:List α):atI (a :: b :: c :: l) 2 = some c := by unfold atI; rw [List.length_cons,List.length_cons,List.length_cons,JDy]; rfl
@[simp] theorem JEc {α:Type} (a b c d:α) (l:List α):atI (a :: b :: c :: d :: l) 3 = some d := by unfold atI; rw [List.length_cons,List.length_cons,List.length_cons,List.length_cons,JDx]; rfl
theorem Jtc {w:List (Nat × List D)} {g:GSem} {b:SSem} (I:Nat → Env → Store → Prop) (R:D → Store → Prop) {ds:List D} {env:Env} {S:Store} (h0:I 0 env S) (hc:∀ i env S,I i env S → calm w S)
    (step:∀ i d env S,ds[i]? = some d → I i env S → ∃ env1,g d env = some env1 ∧ ((∃ env2 S2,(b env1 S = some (.nx,env2,S2) ∨ b env1 S = some (.cnt,env2,S2)) ∧ I (i + 1) env2 S2) ∨ ∃ r env2 S2,b env1 S = some (.ret r,env2,S2) ∧ R r S2)) :
    (∃ env' S',loop w g b ds env S = some (.nx,env',S') ∧ I ds.length env' S') ∨ ∃ r env' S',loop w g b ds env S = some (.ret r,env',S') ∧ R r S' := by
  have key:∀ (l:List D) (i:Nat) (env:Env) (S:Store),ds.drop i = l → i ≤ ds.length → I i env S → (∃ env' S',loop w g b l env S = some (.nx,env',S') ∧ I ds.length env' S') ∨ ∃ r env' S',loop w g b l env S = some (.ret r,env',S') ∧ R r S' := by
    intro l
    induction l with
    | nil =>
      intro i env S hd hi h
      have:i = ds.length := by
        have := congrArg List.length hd
        simp at this; omega
      subst this
      exact .inl ⟨env,S,by unfold loop; rw [if_pos (hc _ _ _ h)],h⟩
    | cons d r ih =>
      intro i env S hd hi h
      have hlt:i < ds.length := by
        have := congrArg List.length hd
        simp at this; omega
      have e:ds[i]? = some d := by
        rw [List.drop_eq_getElem_cons hlt] at hd
        rw [List.getElem?_eq_getElem hlt,(List.cons.inj hd).1]
      have hr:ds.drop (i + 1) = r := by
        rw [List.drop_eq_getElem_cons hlt] at hd
        exact (List.cons.inj hd).2
      obtain ⟨env1,e1,q⟩ := step i d env S e h
      rcases q with ⟨env2,S2,e2,q⟩ | ⟨v,env2,S2,e2,q⟩
      · have e3:loop w g b (d :: r) env S = loop w g b r env2 S2 := by
          rcases e2 with e2 | e2 <;> (rw [loop,if_pos (hc _ _ _ h),e1]; show (b env1 S).bind _ = _; rw [e2]; rfl)
        rw [e3]
        exact ih (i + 1) env2 S2 hr hlt q
      · refine .inr ⟨v,env2,S2,?_,q⟩
        rw [loop,if_pos (hc _ _ _ h),e1]
        show (b env1 S).bind _ = _
        rw [e2]; rfl
  exact key ds 0 env S (by simp) (Nat.zero_le _) h0
theorem Jft {w:List (Nat × List D)} {g:GSem} {b:SSem} (I:Nat → Env → Store → Prop) {ds:List D} {env:Env} {S:Store} (h0:I 0 env S) (hc:∀ i env S,I i env S → calm w S)
    (step:∀ i d env S,ds[i]? = some d → I i env S → ∃ env1,g d env = some env1 ∧ ∃ env2 S2,b env1 S = some (.nx,env2,S2) ∧ I (i + 1) env2 S2) :
    ∃ env' S',loop w g b ds env S = some (.nx,env',S') ∧ I ds.length env' S' := by
  rcases Jtc I (fun _ _ => False) h0 hc (fun i d env S e h => by
    obtain ⟨env1,e1,env2,S2,e2,q⟩ := step i d env S e h
    exact ⟨env1,e1,.inl ⟨env2,S2,.inl e2,q⟩⟩) with h | ⟨_,_,_,_,h⟩
  · exact h
  · exact h.elim
theorem comp_map {w:List (Nat × List D)} {e0:Env} {g:GSem} {t:TSem} {f:ESem} {S:Store} (hc:calm w S) (p:D → Bool) (F:D → D):∀ (ds ys:List D),ys.length + ds.length ≤ 1000000 →
    (∀ d ∈ ds,∃ e1,g d e0 = some e1 ∧ t e1 S = some (p d,S) ∧ (p d = true → f e1 S = some (F d,S))) → Jfq w e0 g t f ds ys S = some (ys ++ (ds.filter p).map F,S)
  | [],ys,hl,_ => by unfold Jfq; rw [if_pos ⟨hc,by simpa using hl⟩]; simp
  | d :: r,ys,hl,h => by
    rw [List.length_cons] at hl
    obtain ⟨e1,h1,h2,h3⟩ := h d List.mem_cons_self
    unfold Jfq
    rw [if_pos ⟨hc,by omega⟩,h1]
    show (t e1 S).bind _ = _
    rw [h2]
    show (if p d = true then _ else _) = _
    have hr:∀ x ∈ r,_ := fun x hx => h x (List.mem_cons_of_mem _ hx)
    by_cases hp:p d = true
    · rw [if_pos hp,h3 hp]
      show Jfq w e0 g t f r (ys ++ [F d]) S = _
      rw [comp_map hc p F r (ys ++ [F d]) (by rw [List.length_append]; simp; omega) hr,List.filter_cons_of_pos hp]
      simp
    · rw [if_neg hp,List.filter_cons_of_neg hp]
      exact comp_map hc p F r ys (by omega) hr
theorem Jhp {w:List (Nat × List D)} {e0:Env} {g:GSem} {f:ESem} {S:Store} (hc:calm w S) (F:D → D) (ds:List D) (hl:ds.length ≤ 1000000) (h:∀ d ∈ ds,∃ e1,g d e0 = some e1 ∧ f e1 S = some (F d,S)):Jfq w e0 g tYes f ds [] S = some (ds.map F,S) := by
  have := comp_map (t := tYes) hc (fun _ => true) F ds [] (by simpa using hl) (fun d hd => let ⟨e1,h1,h2⟩ := h d hd; ⟨e1,h1,rfl,fun _ => h2⟩)
  rw [this,List.nil_append,List.filter_eq_self.mpr (by simp)]
theorem Jka {w:List (Nat × List D)} {e0:Env} {g:GSem} {f:ESem} (I:Nat → List D → Store → Prop) {ds:List D} {S:Store} (h0:I 0 [] S) (hc:∀ i ys S,I i ys S → calm w S ∧ ys.length ≤ 1000000)
    (step:∀ i d ys S,ds[i]? = some d → I i ys S → ∃ e1 y S2,g d e0 = some e1 ∧ f e1 S = some (y,S2) ∧ I (i + 1) (ys ++ [y]) S2):∃ ys S',Jfq w e0 g tYes f ds [] S = some (ys,S') ∧ I ds.length ys S' := by
  have key:∀ (l:List D) (i:Nat) (ys:List D) (S:Store),ds.drop i = l → i ≤ ds.length → I i ys S → ∃ ys' S',Jfq w e0 g tYes f l ys S = some (ys',S') ∧ I ds.length ys' S' := by
    intro l
    induction l with
    | nil =>
      intro i ys S hd hi h
      have:i = ds.length := by
        have := congrArg List.length hd
        simp at this; omega
      subst this
      exact ⟨ys,S,by unfold Jfq; rw [if_pos (hc _ _ _ h)],h⟩
    | cons d r ih =>
      intro i ys S hd hi h
      have hlt:i < ds.length := by
        have := congrArg List.length hd
        simp at this; omega
      have e:ds[i]? = some d := by
        rw [List.drop_eq_getElem_cons hlt] at hd
        rw [List.getElem?_eq_getElem hlt,(List.cons.inj hd).1]
      have hr:ds.drop (i + 1) = r := by
        rw [List.drop_eq_getElem_cons hlt] at hd
        exact (List.cons.inj hd).2
      obtain ⟨e1,y,S2,h1,h2,h3⟩ := step i d ys S e h
      obtain ⟨ys',S',h4,h5⟩ := ih (i + 1) (ys ++ [y]) S2 hr hlt h3
      refine ⟨ys',S',?_,h5⟩
      unfold Jfq
      rw [if_pos (hc _ _ _ h),h1]
      simp only [Option.bind_some,tYes,if_true,h2]
      exact h4
  exact key ds 0 [] S (by simp) (Nat.zero_le _) h0
theorem Jms {α:Type} {w:List (Nat × List D)} {e0:VS.Env} {g:GSem} {t:TSem} {f:ESem} {S:Store} (hc:calm w S) (enc:α → D) (p:α → Bool) (F:α → D):∀ (l:List α) (ys:List D),ys.length + l.length ≤ 1000000 →
    (∀ a ∈ l,∃ e1,g (enc a) e0 = some e1 ∧ t e1 S = some (p a,S) ∧ (p a = true → f e1 S = some (F a,S))) → Jfq w e0 g t f (l.map enc) ys S = some (ys ++ (l.filter p).map F,S)
  | [],ys,hl,_ => by rw [List.map_nil,Jfq,if_pos ⟨hc,by simpa using hl⟩]; simp
  | d :: r,ys,hl,h => by
    rw [List.length_cons] at hl
    obtain ⟨e1,h1,h2,h3⟩ := h d List.mem_cons_self
    have hr:∀ x ∈ r,_ := fun x hx => h x (List.mem_cons_of_mem _ hx)
    rw [List.map_cons,Jfq,if_pos ⟨hc,by omega⟩,h1]
    simp only [Option.bind_some,h2]
    by_cases hp:p d = true
    · simp only [hp,if_true,h3 hp,Option.bind_some]
      rw [Jms hc enc p F r (ys ++ [F d]) (by rw [List.length_append]; simp; omega) hr,List.filter_cons_of_pos hp]
      simp
    · rw [if_neg hp,List.filter_cons_of_neg hp]
      exact Jms hc enc p F r ys (by omega) hr
theorem Jez {α:Type} {w:List (Nat × List D)} {e0:VS.Env} {g:GSem} {f:ESem} {S:Store} (hc:calm w S) (enc F:α → D) (l:List α) (hl:l.length ≤ 1000000) (h:∀ a ∈ l,∃ e1,g (enc a) e0 = some e1 ∧ f e1 S = some (F a,S)):Jfq w e0 g VS.tYes f (l.map enc) [] S = some (l.map F,S) := by
  have := Jms (t := VS.tYes) hc enc (fun _ => true) F l [] (by simpa using hl) (fun d hd => let ⟨e1,h1,h2⟩ := h d hd; ⟨e1,h1,rfl,fun _ => h2⟩)
  rw [this,List.nil_append,List.filter_eq_self.mpr (by simp)]
theorem Jzz {w:List (Nat × List D)} {e0:VS.Env} {g:GSem} {f:ESem} {S:Store} (hc:calm w S) (n:Nat) (F:Nat → D) (hl:n ≤ 1000000) (h:∀ i < n,∃ e1,g (.int i) e0 = some e1 ∧ f e1 S = some (F i,S)):Jfq w e0 g VS.tYes f (upD 0 n) [] S = some ((List.range n).map F,S) := by
  have e:upD 0 n = (List.range n).map fun (i:Nat) => D.int i := by unfold upD; simp
  rw [e]
  exact Jez hc (fun (i:Nat) => D.int i) F (List.range n) (by simpa using hl) fun i hi => h i (List.mem_range.mp hi)
theorem Ji6 (lo:Int) (n:Nat):(upD lo n).length = n := by unfold upD; rw [List.length_map,List.length_range]
theorem Jhx {lo:Int} {n i:Nat} {d:D} (h:(upD lo n)[i]? = some d):i < n ∧ d = .int (lo + i) := by
  have hi:i < n := by rw [← Ji6 lo n]; exact (List.getElem?_eq_some_iff.mp h).1
  unfold upD at h
  rw [List.getElem?_map,List.getElem?_range hi] at h
  cases h
  exact ⟨hi,rfl⟩
theorem Jsq {j:Int} (h0:-1000000 ≤ j) (h1:j ≤ 1000000):r62 j := ⟨Int.le_trans (by decide) h0,Int.lt_of_le_of_lt h1 (by decide)⟩
theorem Jio {f:ASem} {env:VS.Env} {S S':Store} {j:Int} (n:Nat) (hf:f env S = some ([.int j],S')) (hn:j.toNat = n) (h0:-1000000 ≤ j) (h1:j ≤ 1000000):Jc0 f env S = some ((upD 0 n,[]),S') := by
  unfold Jc0
  rw [hf,Option.bind_some]
  show (if r62 j then some ((upD 0 j.toNat,([]:List (Nat × List D))),S') else none) = _
  rw [if_pos (Jsq h0 h1),hn]
theorem Jk0 {S:Store} {ds:List D} (h:Jew ds = true):denL 0 S ds = some ds := Jbn 0 S (Jbr h)
theorem Jfm {α:Type} {F:α → D} (l:List α) (h:∀ a ∈ l,Jdl (F a) = true):Jew (l.map F) = true := by
  induction l with
  | nil => rfl
  | cons a r ih => rw [List.map_cons,Jew,h a List.mem_cons_self,ih fun b hb => h b (List.mem_cons_of_mem _ hb)]; rfl
theorem Jp1 {α:Type} {F:α → D} {G:α → PyData} (l:List α) (h:∀ a ∈ l,toP (F a) = some (G a)):toPL (l.map F) = some (l.map G) := by
  induction l with
  | nil => rw [List.map_nil,toPL]; rfl
  | cons a r ih => rw [List.map_cons,toPL,h a List.mem_cons_self,ih fun b hb => h b (List.mem_cons_of_mem _ hb)]; rfl
abbrev St2 := Int × Int
def encS (p:St2):D := .tup [.int p.1,.int p.2]
def encB (b:List St2):D := .tup (b.map encS)
def encH (m:Bool) (n:Nat) (bs:List (List St2)):D := .tup [.int n,.lst m (bs.map encB)]
@[simp] theorem Jd0 (p:St2):Jdl (encS p) = true := rfl
@[simp] theorem Jfl (b:List St2):Jdl (encB b) = true := by rw [encB,Jdl]; exact Jfm b fun p _ => Jd0 p
theorem Jc6 (bs:List (List St2)):Jew (bs.map encB) = true := Jfm bs fun b _ => Jfl b
def pS (p:St2):PyData := .tuple [.int p.1,.int p.2]
def pB (b:List St2):PyData := .tuple (b.map pS)
theorem Jpz (p:St2):toP (encS p) = some (pS p) := by simp [encS,toP,toPL,pS]
theorem Jp0 (b:List St2):toP (encB b) = some (pB b) := by rw [encB,toP,Jp1 b fun p _ => Jpz p]; rfl
theorem Jrc (bs:List (List St2)):toPL (bs.map encB) = some (bs.map pB) := Jp1 bs fun b _ => Jp0 b
@[simp] theorem JC4 (S:Store) (x:D):bIsT S [x,.ty "int"] = (seeP S x).map fun p => .bl (isT "int" p) := rfl
@[simp] theorem Jxf:isT "int" (.none) = false := rfl
@[simp] theorem Jxi (b:Bool):isT "int" (.bool b) = true := rfl
@[simp] theorem Jzn (i:Int):isT "int" (.int i) = true := rfl
@[simp] theorem Jzm (s:Str):isT "int" (.str s) = false := rfl
@[simp] theorem Jxg (l:List PyData):isT "int" (.list l) = false := rfl
@[simp] theorem Jwa (l:List PyData):isT "int" (.tuple l) = false := rfl
@[simp] theorem Jxh (l:List (PyData × PyData)):isT "int" (.dict l) = false := rfl
@[simp] theorem JCm (S:Store) (x:D):bIsT S [x,.ty "bool"] = (seeP S x).map fun p => .bl (isT "bool" p) := rfl
@[simp] theorem Jwb:isT "bool" (.none) = false := rfl
@[simp] theorem Jwe (b:Bool):isT "bool" (.bool b) = true := rfl
@[simp] theorem Jxk (i:Int):isT "bool" (.int i) = false := rfl
@[simp] theorem Jxj (s:Str):isT "bool" (.str s) = false := rfl
@[simp] theorem Jwc (l:List PyData):isT "bool" (.list l) = false := rfl
@[simp] theorem Jup (l:List PyData):isT "bool" (.tuple l) = false := rfl
@[simp] theorem Jwd (l:List (PyData × PyData)):isT "bool" (.dict l) = false := rfl
@[simp] theorem Jz9 (S:Store) (x:D):bIsT S [x,.ty "tuple"] = (seeP S x).map fun p => .bl (isT "tuple" p) := rfl
@[simp] theorem Jui:isT "tuple" (.none) = false := rfl
@[simp] theorem Jum (b:Bool):isT "tuple" (.bool b) = false := rfl
@[simp] theorem Jv4 (i:Int):isT "tuple" (.int i) = false := rfl
@[simp] theorem Jv3 (s:Str):isT "tuple" (.str s) = false := rfl
@[simp] theorem Juj (l:List PyData):isT "tuple" (.list l) = false := rfl
@[simp] theorem Jtp (l:List PyData):isT "tuple" (.tuple l) = true := rfl
@[simp] theorem Juk (l:List (PyData × PyData)):isT "tuple" (.dict l) = false := rfl
@[simp] theorem JCl (S:Store) (x:D):bIsT S [x,.ty "list"] = (seeP S x).map fun p => .bl (isT "list" p) := rfl
@[simp] theorem Jv6:isT "list" (.none) = false := rfl
@[simp] theorem Jv9 (b:Bool):isT "list" (.bool b) = false := rfl
@[simp] theorem Jxe (i:Int):isT "list" (.int i) = false := rfl
@[simp] theorem Jxd (s:Str):isT "list" (.str s) = false := rfl
@[simp] theorem Jv7 (l:List PyData):isT "list" (.list l) = true := rfl
@[simp] theorem Juo (l:List PyData):isT "list" (.tuple l) = false := rfl
@[simp] theorem Jv8 (l:List (PyData × PyData)):isT "list" (.dict l) = false := rfl
@[simp] theorem JC2 (S:Store) (x:D):bIsT S [x,.ty "str"] = (seeP S x).map fun p => .bl (isT "str" p) := rfl
@[simp] theorem Jw9:isT "str" (.none) = false := rfl
@[simp] theorem Jxc (b:Bool):isT "str" (.bool b) = false := rfl
@[simp] theorem Jzl (i:Int):isT "str" (.int i) = false := rfl
@[simp] theorem Jzk (s:Str):isT "str" (.str s) = true := rfl
@[simp] theorem Jxa (l:List PyData):isT "str" (.list l) = false := rfl
@[simp] theorem Jv5 (l:List PyData):isT "str" (.tuple l) = false := rfl
@[simp] theorem Jxb (l:List (PyData × PyData)):isT "str" (.dict l) = false := rfl
@[simp] theorem JC3 (S:Store) (x:D):bIsT S [x,.tup [.ty "tuple",.ty "list"]] = (seeP S x).bind fun p => if noDict p = true then some (.bl (isSeq p)) else none := rfl
@[simp] theorem JCt (S:Store) (i:Int):seeP S (.int i) = some (.int i) := by simp [seeP,den,toP]
@[simp] theorem Jsl (S:Store) (b:Bool):seeP S (.bl b) = some (.bool b) := by simp [seeP,den,toP]
@[simp] theorem Jqe (S:Store):seeP S .non = some .none := by simp [seeP,den,toP]
@[simp] theorem JCs (S:Store) (x:Str):seeP S (.str x) = some (.str x) := by simp [seeP,den,toP]
@[simp] theorem Jsj (S:Store) (p:St2):seeP S (encS p) = some (pS p) := by rw [seeP,Jhk 0 S (Je2 (Jd0 p))]; exact Jpz p
@[simp] theorem Jkg (S:Store) (b:List St2):seeP S (encB b) = some (pB b) := by rw [seeP,Jhk 0 S (Je2 (Jfl b))]; exact Jp0 b
theorem Jhj (S:Store) (m:Bool) (bs:List (List St2)):seeP S (.lst m (bs.map encB)) = some (.list (bs.map pB)) := by
  rw [seeP,den,Jk0 (Jc6 bs)]
  show toP (.lst m (bs.map encB)) = _
  rw [toP,Jrc]; rfl
theorem Jsk (S:Store) (m:Bool) (n:Nat) (bs:List (List St2)):seeP S (encH m n bs) = some (.tuple [.int n,.list (bs.map pB)]) := by
  have h := Jhj S m bs
  rw [seeP,den,Jk0 (Jc6 bs)] at h
  have h':toP (.lst m (bs.map encB)) = some (.list (bs.map pB)) := h
  simp [seeP,encH,den,denL,Jk0 (Jc6 bs),toP,toPL]
  rw [toP] at h'
  obtain ⟨ps,e1,e2⟩ := map_some h'
  rw [e1]
  cases e2
  rfl
@[simp] theorem Jho (ns:List Int):Jew (ns.map D.int) = true := Jfm ns fun _ _ => rfl
@[simp] theorem Jt0 (k:Nat) (S:Store) (ns:List Int):denL k S (ns.map D.int) = some (ns.map D.int) := Jbn k S (Jbr (Jho ns))
@[simp] theorem Jk5 (ns:List Int):ageL (ns.map D.int) = ns.map D.int := Jhe (Jho ns)
@[simp] theorem Jeu (ns:List Int):Jav (ns.map D.int) = true := Jbr (Jho ns)
@[simp] theorem JBq (ns:List Int):newL (ns.map D.int) = true := Jiv (Jho ns)
theorem Jik (lo:Int) (n:Nat):upD lo n = ((List.range n).map fun (i:Nat) => lo + (i:Int)).map D.int := by unfold upD; rw [List.map_map]; rfl
@[simp] theorem JCz (k:Nat) (S:Store) (lo:Int) (n:Nat):denL k S (upD lo n) = some (upD lo n) := by rw [Jik]; exact Jt0 ..
@[simp] theorem JAy (lo:Int) (n:Nat):Jav (upD lo n) = true := by rw [Jik]; exact Jeu _
@[simp] theorem Jrx (k:Nat) (S:Store) (bs:List (List St2)):denL k S (bs.map encB) = some (bs.map encB) := Jbn k S (Jbr (Jc6 bs))
@[simp] theorem JAa (bs:List (List St2)):ageL (bs.map encB) = bs.map encB := Jhe (Jc6 bs)
@[simp] theorem Jo1 (bs:List (List St2)):Jav (bs.map encB) = true := Jbr (Jc6 bs)
@[simp] theorem Jz8 (bs:List (List St2)):newL (bs.map encB) = true := Jiv (Jc6 bs)
@[simp] theorem Jzy (bs:List (List St2)):Jew (bs.map encB) = true := Jc6 bs
@[simp] theorem JCw (k:Nat) (S:Store) (p:St2):den k S (encS p) = some (encS p) := Jhk k S (Je2 (Jd0 p))
@[simp] theorem JCy (k:Nat) (S:Store) (b:List St2):den k S (encB b) = some (encB b) := Jhk k S (Je2 (Jfl b))
@[simp] theorem JC6 (p:St2):age (encS p) = encS p := Jiu (Jd0 p)
@[simp] theorem JC8 (b:List St2):age (encB b) = encB b := Jiu (Jfl b)
@[simp] theorem JAx (p:St2):Ja2 (encS p) = true := Je2 (Jd0 p)
@[simp] theorem Jss (b:List St2):Ja2 (encB b) = true := Je2 (Jfl b)
@[simp] theorem JCu (p:St2):newD (encS p) = true := Jmm (Jd0 p)
@[simp] theorem JCv (b:List St2):newD (encB b) = true := Jmm (Jfl b)
@[simp] theorem JCx (k:Nat) (S:Store) (m:Bool) (n:Nat) (bs:List (List St2)):den k S (encH m n bs) = some (encH m n bs) := by simp [encH,den,denL,Jbn k S (Jbr (Jc6 bs))]
@[simp] theorem JC7 (m:Bool) (n:Nat) (bs:List (List St2)):age (encH m n bs) = encH false n bs := by simp [encH,age,ageL,Jhe (Jc6 bs)]
@[simp] theorem Jsr (m:Bool) (n:Nat) (bs:List (List St2)):Ja2 (encH m n bs) = true := by simp [encH,Ja2,Jav,Jbr (Jc6 bs)]
structure Good (n:Nat) (bs:List (List St2)):Prop where
  ways:n = 1 ∨ n = 2 ∨ n = 3
  most:bs.length ≤ [0,20,10,6].getD n 0
  box:∀ b ∈ bs,b.length = n ∧ ∀ p ∈ b,p.1 < p.2 ∧ -1000000000 ≤ p.1 ∧ p.2 ≤ 1000000000
theorem Good.n3 {n:Nat} {bs:List (List St2)} (g:Good n bs):1 ≤ n ∧ n ≤ 3 := by have := g.ways; omega
theorem Good.few {n:Nat} {bs:List (List St2)} (g:Good n bs):bs.length ≤ 20 := by
  have := g.most
  rcases g.ways with h | h | h <;> subst h <;> simp at this <;> omega
theorem JCo {α:Type} {l:List α} {i:Int} {j:Nat} (e:i = (j:Int)) (h:j < l.length):atI l i = some l[j] := by
  subst e
  exact Jgv (List.getElem?_eq_getElem h)
theorem Jij {α β:Type} {F:α → β} {l:List α} {i:Int} (h0:0 ≤ i) (h1:i < l.length):∃ a,atI (l.map F) i = some (F a) ∧ l[i.toNat]? = some a := by
  have hj:i.toNat < l.length := by omega
  refine ⟨l[i.toNat],?_,List.getElem?_eq_getElem hj⟩
  rw [JCo (j := i.toNat) (by omega) (by simpa using hj)]; simp
theorem Jqf {n d:Nat} {a:Int} (h0:0 ≤ a) (h1:a ≤ n):HT.sIx n d (some a) = a.toNat := by
  show (if a < 0 then (a + (n:Int)).toNat else min a.toNat n) = a.toNat
  rw [if_neg (by omega)]
  omega
theorem JCi {xs:List D} {a:Int} (h0:0 ≤ a) (h1:a ≤ xs.length):cut xs none (some a) = xs.take a.toNat := by
  unfold cut
  rw [Jqf h0 h1]
  simp [HT.sIx]
theorem Jwo {xs:List D} {a:Int} (h0:0 ≤ a) (h1:a ≤ xs.length):cut xs (some a) none = xs.drop a.toNat := by
  unfold cut
  rw [Jqf h0 h1]
  simp only [HT.sIx]
  rw [List.take_of_length_le]
  simp
def lev:Nat → PyData → Bool
  | _,.none => true
  | _,.bool _ => true
  | _,.int _ => true
  | k + 1,.list xs => xs.all (lev k)
  | k + 1,.tuple xs => xs.all (lev k)
  | _,_ => false
theorem Jpg {k:Nat} (ih:∀ d,lev k d = true → PyData.canLay0 d = true ∧ d.depth ≤ k):∀ xs:List PyData,xs.all (lev k) = true → PyData.canLayAll0 xs = true ∧ PyData.depthAll xs ≤ k
  | [],_ => ⟨by rw [PyData.canLayAll0],by rw [PyData.depthAll]; omega⟩
  | x :: xs,h => by
    rw [List.all_cons,Bool.and_eq_true] at h
    obtain ⟨h1,h2⟩ := ih x h.1
    obtain ⟨h3,h4⟩ := Jpg ih xs h.2
    exact ⟨by rw [PyData.canLayAll0,h1,h3]; rfl,by rw [PyData.depthAll]; omega⟩
theorem Jqp:∀ (k:Nat) (d:PyData),lev k d = true → PyData.canLay0 d = true ∧ d.depth ≤ k
  | k,.none,_ => ⟨by rw [PyData.canLay0],by rw [PyData.depth]; omega⟩
  | k,.bool _,_ => ⟨by rw [PyData.canLay0],by rw [PyData.depth]; omega⟩
  | k,.int _,_ => ⟨by rw [PyData.canLay0],by rw [PyData.depth]; omega⟩
  | 0,.list _,h => by simp [lev] at h
  | 0,.tuple _,h => by simp [lev] at h
  | k,.str _,h => by cases k <;> simp [lev] at h
  | k,.dict _,h => by cases k <;> simp [lev] at h
  | k + 1,.list xs,h => by
    rw [lev] at h
    obtain ⟨h1,h2⟩ := Jpg (Jqp k) xs h
    exact ⟨by rw [PyData.canLay0]; exact h1,by rw [PyData.depth]; omega⟩
  | k + 1,.tuple xs,h => by
    rw [lev] at h
    obtain ⟨h1,h2⟩ := Jpg (Jqp k) xs h
    exact ⟨by rw [PyData.canLay0]; exact h1,by rw [PyData.depth]; omega⟩
theorem Jlh {k:Nat} {d:PyData} (h:lev k d = true) (hk:k ≤ 60):SeqAt.shaped d = true := by
  obtain ⟨h1,h2⟩ := Jqp k d h
  unfold SeqAt.shaped
  rw [h1,Bool.true_and]
  exact decide_eq_true (by omega)
theorem Jj9 {neg:Bool} {S:Store} {x y:D} {p:PyData} (k:Nat) (hx:seeP S x = some p) (hy:seeP S y = some p) (h:lev k p = true) (hk:k ≤ 60):eqP neg S x y = some (.bl (neg ^^ true)) := by
  unfold eqP
  rw [hx,hy]
  simp only [Option.bind_some]
  rw [Jlh h hk,SeqAt.eqv_refl _ (Jqp k p h).1]; rfl
theorem Jtw {neg:Bool} {S:Store} {x:D} {m:Bool} {l:List PyData} (k:Nat) (hx:seeP S x = some (.list l)) (h:lev k (.list l) = true) (hk:k ≤ 60):eqP neg S x (.lst m []) = some (.bl (neg ^^ l.isEmpty)) := by
  unfold eqP
  have hy:seeP S (.lst m []) = some (.list []) := by simp [seeP,den,denL,toP,toPL]
  rw [hx,hy]
  simp only [Option.bind_some]
  rw [Jlh h hk]
  cases l with
  | nil => rfl
  | cons a r => rfl
theorem JBu (k:Nat) (p:St2):lev (k + 1) (pS p) = true := by simp [pS,lev]
theorem Jw2 (k:Nat) (b:List St2):lev (k + 2) (pB b) = true := by
  rw [pB,lev,List.all_map,List.all_eq_true]
  exact fun p _ => JBu k p
theorem Jnr (k:Nat) (bs:List (List St2)):lev (k + 3) (.list (bs.map pB)) = true := by
  rw [lev,List.all_map,List.all_eq_true]
  exact fun p _ => Jw2 k p
theorem Ju1 {S:Store} {i:Nat} {bs:List (List St2)} (h:S[i]? = some (some (bs.map encB))):seeP S (.ref i) = some (.list (bs.map pB)) := by
  have := Jhj S true bs
  rw [seeP,den,Jrx] at this
  rw [seeP,den,if_neg (by omega),h]
  simp only [Jo1,if_true]
  exact this
theorem Jbd {a b:SSem} {env env1:VS.Env} {S S1:Store} (h:a env S = some (.nx,env1,S1)):sSeq a b env S = b env1 S1 := by rw [Jbu,h]; rfl
theorem Jot {a b:SSem} {env env1:VS.Env} {S S1:Store} {d:D} (h:a env S = some (.ret d,env1,S1)):sSeq a b env S = some (.ret d,env1,S1) := by rw [Jbu,h]; rfl
theorem Jtr {c:TSem} {a b:SSem} {env:VS.Env} {S S1:Store} (h:c env S = some (true,S1)):sIf c a b env S = a env S1 := by rw [Jb9,h]; rfl
theorem Jk7 {c:TSem} {a b:SSem} {env:VS.Env} {S S1:Store} (h:c env S = some (false,S1)):sIf c a b env S = b env S1 := by rw [Jb9,h]; rfl
end VS
end
section
set_option Elab.async false
set_option maxRecDepth 10000
set_option linter.all false
namespace VS
open PySem PySem.Spec L2
theorem Jqw {X:Cx} {elt tg iter:Expr} {ifs:List Expr} {scope:Scope} {pos:Pos} {N2:List Str} {k:Nat} {caps:List Nat} {it:ISem} {p:Pat} {t:TSem} {f:ESem}
    (hc:X.calm = true) (hS:Jcn X.env.scope X.N N2 k caps scope) (hlow:p.low k = true) (hi:JI X tg iter it) (hb:JC X N2 scope tg ifs elt p t f)
    (hs:∀ x,foldedSetIterable iter X.env x = pure x := by intro _; rfl):JE X (.ListComp elt [⟨tg,iter,ifs,0⟩] scope pos) (eSto (Jcg k caps it p.sem t f)) :=
  ⟨PE.imp (Jsz hc hS (p.Jwf X.K hlow) hi.pi (fun cl C s H ex => let ⟨a,b,c⟩ := hb.all cl C s H ex; ⟨a.pg,b.pt,c.pe⟩) hs) fun σ H Q h => by
    obtain ⟨Γ,μ,env,S,d,S',hK,R,e,q⟩ := h
    obtain ⟨⟨ys,S1⟩,e1,e⟩ := bind_some e
    cases e
    refine Joo ⟨Γ,μ,env,S,ys,S1,hK,R,e1,fun xs μ1 H1 x1 R1 r1 z hz => ?_⟩
    obtain ⟨R2,x2⟩ := R1.laid hz r1
    exact q _ _ _ (x1.trans x2) R2 (Jyd R1.slen)⟩
end VS
namespace HT
open PySem PySem.Spec PyProof PyProof.Rows
theorem Jlz (xs:Array Value):slicePick xs none none (some (-1)) = xs.toList.reverse.toArray := by
  have b:sliceBounds none none (some (-1)) xs.size = ((xs.size:Int) - 1,-1,-1) := by simp [sliceBounds]
  have c:sliceRange ((xs.size:Int) - 1) (-1) (-1) = (List.range xs.size).map fun (m:Nat) => (((xs.size:Int) - 1) + (m:Int) * (-1)).toNat := by
    unfold sliceRange
    simp only [show ¬ ((-1:Int) > 0) by decide,if_false]
    have e:(if (xs.size:Int) - 1 > -1 then ((xs.size:Int) - 1 - -1 - -1 - 1) / (- -1) else 0).toNat = xs.size := by
      have e1:(- -1:Int) = 1 := rfl
      rw [e1,Int.ediv_one]
      split <;> omega
    rw [e]
    refine List.map_congr_left fun m _ => ?_
    congr 1
    omega
  unfold slicePick
  rw [b,c,List.filterMap_map,← Jqh]
  rfl
end HT
namespace L2
open PySem PySem.Spec PyProof PyProof.Rows
theorem Jyt {X:Cx} {e:Expr} {te:TE} {j:Nat} {p0 p1 p2 pos:Pos} (he:PE X e te):PE X (.Subscript e (.Slice none none (some (.UnaryOp .USub (.Constant (.int 1) j p0) p1)) p2) pos)
    (fun σ H Q => te σ H fun x H1 => ∃ (a:Addr) (xs:List V),x = .ref a ∧ ((H1 a = some (.tup xs) ∧ ∀ p,H1 p = none → Q (.ref p) (upd H1 p (.tup xs.reverse))) ∨ (SqL X.K H1 a xs ∧ ∀ p,H1 p = none → Q (.ref p) (upd H1 p (.lst xs.reverse))))) := by
  intro pins s σ H Q I h
  refine Subscript_ (thn (he pins s σ H _ I h) fun v s1 ⟨x,H1,I1,r1,q1⟩ => ?_)
  obtain ⟨a,xs,rfl,q⟩ := q1
  cases r1
  refine wpAny_Slice ?_
  rw [evalPart_none]
  refine wpAny_pure (wpAny_pure ?_)
  rw [evalPart_some]
  refine thn (JA8 Jpy Jw1 pins s1 σ H1 (fun x H2 => x = .int (-1) ∧ H2 = H1) I1 ⟨1,rfl,rfl,rfl⟩) fun u s2 ⟨y,H2,I2,r2,e1,e2⟩ => ?_
  subst e1 e2
  obtain ⟨t0,rfl⟩ := (show ∃ t,u = Value.int (-1) t from r2)
  have I4:Inv X pins σ H2 { s2 with heap := s2.heap.push { cls := .type "slice",data := .fields #[.none,.none,.int (-1) t0] } } := I2.kept (t' := s2.toks) fun b ob q => Heap.get?_push_of_some _ q
  show wpAny (model X.prog X.w) X.A (subscriptTail e (.Slice none none (some (.UnaryOp .USub (.Constant (.int 1) j p0) p1)) p2) (.ref a) (.ref s2.heap.objs.size)) (EP X pins σ Q) X.xe { s2 with heap := s2.heap.push { cls := .type "slice",data := .fields #[.none,.none,.int (-1) t0] } }
  rcases q with ⟨ha,q⟩ | ⟨ha,q⟩
  · obtain ⟨its,rv,ht,hz⟩ := I4.tuple (SqT.of ha)
    have hlen := rv.length
    refine tail_any (ops := [.ref a,.ref s2.heap.objs.size]) ht.typeIs PyProof.Rows.slot_tuple_getitem.lookup ?_ (by with_unfolding_all rfl)
    refine HT.Jsb ht (Heap.IsSliceOf.new ..) (by rw [List.size_toArray,← hlen]; exact hz) ?_
    refine ⟨.ref _,_,I4.laid (t' := s2.toks) (o := .tup xs.reverse) (fun b ob q => Heap.get?_push_of_some _ q) (Nat.le_refl _) ?_,rfl,q _ (I4.hok.fresh (Nat.le_refl _))⟩
    exact ⟨by rw [List.length_reverse]; exact hz,its.reverse,rv.reverse,by rw [show its.reverse.toArray = its.toArray.toList.reverse.toArray by simp]; exact IsTup.new _ _⟩
  · obtain ⟨its,rv,ht,hz⟩ := I4.list ha
    have hlen := rv.length
    refine tail_any (ops := [.ref a,.ref s2.heap.objs.size]) ht.isList.typeIs slot_list_getitem.lookup ?_ (by with_unfolding_all rfl)
    refine wpAny_getItem_list_slice ht.isList (Heap.IsSliceOf.new ..) .none .none (.int (-1) t0) (by simp) ?_ (by rw [List.size_toArray,← hlen]; exact hz)
    rw [HT.Jlz]
    refine ⟨.ref _,_,I4.laid (t' := s2.toks) (o := .lst xs.reverse) (fun b ob q => Heap.get?_push_of_some _ q) (Nat.le_refl _) ?_,rfl,q _ (I4.hok.fresh (Nat.le_refl _))⟩
    exact ⟨by rw [List.length_reverse]; exact hz,its.reverse,0,rv.reverse,by rw [show its.reverse.toArray = its.toArray.toList.reverse.toArray by simp]; exact Heap.get?_push_size _ rfl⟩
end L2
namespace VS
open PySem PySem.Spec L2
def Jh5 (S:Store):D → Option D
  | .tup ds => some (.tup ds.reverse)
  | x => (Jax S x).map fun ds => .lst true ds.reverse
theorem Jpi {X:Cx} {e:Expr} {f:ESem} {j:Nat} {p0 p1 p2 pos:Pos} (he:JE X e f):JE X (.Subscript e (.Slice none none (some (.UnaryOp .USub (.Constant (.int 1) j p0) p1)) p2) pos) (eUn Jh5 f) :=
  ⟨PE.imp (Jyt he.pe) fun σ H Q h => by
    obtain ⟨Γ,μ,env,S,d,S',hK,R,e,q⟩ := h
    obtain ⟨⟨x,S1⟩,e1,e⟩ := bind_some e
    obtain ⟨z,e3,e⟩ := map_some e
    cases e
    refine ⟨Γ,μ,env,S,x,S1,hK,R,e1,fun v1 μ1 H1 x1 R1 r1 => ?_⟩
    dsimp only at e3
    unfold Jh5 at e3
    split at e3
    · cases e3
      cases r1 with
      | @tup p xs _ hp rp =>
        refine ⟨p,xs,rfl,.inl ⟨hp,fun t ht => ?_⟩⟩
        obtain ⟨R2,x2⟩ := R1.grow (Jby ht (.tup xs.reverse))
        exact q _ μ1 _ (x1.trans x2) R2 (.tup Jbj ((rp.reverse).ext x2))
    · rename_i ht
      obtain ⟨ds,e4,e5⟩ := map_some e3
      subst e5
      rcases VR.seqL hK R1 r1 e4 with ⟨es,z⟩ | ⟨a,xs,rfl,hq,rs⟩
      · exact absurd z (ht es)
      · refine ⟨a,xs,rfl,.inr ⟨hq,fun t htt => ?_⟩⟩
        obtain ⟨R2,x2⟩ := R1.grow (Jby htt (.lst xs.reverse))
        exact q _ μ1 _ (x1.trans x2) R2 (.lst (R1.ok htt true) (R1.dead htt) Jbj (rs.reverse.ext x2))⟩
end VS
end
section
set_option Elab.async false
set_option maxRecDepth 100000
set_option linter.all false
namespace HT
open PySem PySem.Spec PyProof.Rows
section
variable {prog:Program} {w:World} {A:Around} {E:Value → Shared → Prop} {s:Shared}
abbrev JCr (h:Heap) (z TI TO T:Addr) (c:Bool):Prop := h.get? z = some { cls := .type "zip",dict := none,data := .fields #[rawInt T,.bool c,.bool false,.ref TI,.ref TO],slots := #[] }
variable {z TI TO i1 i2 T:Addr} {fp1 fp2:List Addr} {n1 n2 k:Nat} {P1 P2:Nat → Value → Prop} {S1 S2:Nat → Heap → Prop} {c:Bool}
def ZS (z TI TO i1 i2:Addr) (S1 S2:Nat → Heap → Prop) (k:Nat) (h:Heap):Prop :=
  IsPair h TI (.ref i1) (.ref i2) ∧ S1 k h ∧ S2 k h ∧ ((∃ a b,IsZip h z TI TO .none ∧ IsPair h TO a b) ∨ ∃ T c o,JCr h z TI TO T c ∧ h.get? T = some o ∧ T ≠ z ∧ T ≠ i1 ∧ T ≠ i2)
theorem ZS.type (st:ZS z TI TO i1 i2 S1 S2 k s.heap):s.TypeIs (.ref z) "zip" := by
  obtain ⟨_,_,_,⟨_,_,h,_⟩ | ⟨_,_,_,h,_⟩⟩ := st
  · exact ⟨_,h,rfl⟩
  · exact ⟨_,h,rfl⟩
theorem ZS.lt {h:Heap} (st:ZS z TI TO i1 i2 S1 S2 k h):z < h.objs.size := by
  obtain ⟨_,_,_,⟨_,_,h,_⟩ | ⟨_,_,_,h,_⟩⟩ := st
  · exact Heap.lt_size h
  · exact Heap.lt_size h
theorem ZS.frame {h h':Heap} (D1:Draws prog w A i1 fp1 n1 P1 S1) (D2:Draws prog w A i2 fp2 n2 P2 S2) (st:ZS z TI TO i1 i2 S1 S2 k h) {S:Addr} (f1:S ∉ fp1) (f2:S ∉ fp2) (n1:S ≠ z) (n2:S ≠ TI) (n3:S ≠ TO) (lv:∃ o,h'.get? S = some o) (m:∀ c o,c ≠ S → h.get? c = some o → h'.get? c = some o):ZS z TI TO i1 i2 S1 S2 k h' := by
  obtain ⟨a1,a2,a3,a4⟩ := st
  refine ⟨m _ _ (Ne.symm n2) a1,D1.frame _ _ _ a2 fun c hc o e => m c o (fun q => f1 (q ▸ hc)) e,D2.frame _ _ _ a3 fun c hc o e => m c o (fun q => f2 (q ▸ hc)) e,?_⟩
  rcases a4 with ⟨a,b,b1,b2⟩ | ⟨T,c,o,b1,b2,b3⟩
  · exact .inl ⟨a,b,m _ _ (Ne.symm n1) b1,m _ _ (Ne.symm n3) b2⟩
  · by_cases q:T = S
    · obtain ⟨o',e⟩ := lv
      exact .inr ⟨T,c,o',m _ _ (Ne.symm n1) b1,q ▸ e,b3⟩
    · exact .inr ⟨T,c,o,m _ _ (Ne.symm n1) b1,m _ _ q b2,b3⟩
theorem ZS.push {h:Heap} (D1:Draws prog w A i1 fp1 n1 P1 S1) (D2:Draws prog w A i2 fp2 n2 P2 S2) (st:ZS z TI TO i1 i2 S1 S2 k h) (o:Obj):ZS z TI TO i1 i2 S1 S2 k (h.push o) := by
  obtain ⟨a1,a2,a3,a4⟩ := st
  refine ⟨Heap.get?_push_of_some _ a1,D1.frame _ _ _ a2 fun c hc o e => Heap.get?_push_of_some _ e,D2.frame _ _ _ a3 fun c hc o e => Heap.get?_push_of_some _ e,?_⟩
  rcases a4 with ⟨a,b,b1,b2⟩ | ⟨T,c,o,b1,b2,b3⟩
  · exact .inl ⟨a,b,Heap.get?_push_of_some _ b1,Heap.get?_push_of_some _ b2⟩
  · exact .inr ⟨T,c,o,Heap.get?_push_of_some _ b1,Heap.get?_push_of_some _ b2,b3⟩
end
end HT
end
section
set_option Elab.async false
set_option maxRecDepth 10000
set_option linter.all false
namespace L2
open PySem PySem.Spec PyProof.Rows
section
variable {X:Cx} {pins:List (Addr × Obj)} {σ:St} {H:Hp} {s:Shared}
end
section
variable {X:Cx}
end
end L2
end
section
set_option Elab.async false
set_option maxRecDepth 10000
set_option linter.all false
namespace VS
open PySem PySem.Spec L2 PyProof.Rows
end VS
end
section
set_option Elab.async false
set_option maxRecDepth 10000
set_option linter.all false
namespace W06
open PySem L2 VS
noncomputable def Jln:SSem :=
  (sRet (eAnd (eCB bIsT (Jab (eVar 0) (Jab (eC (.ty "int")) aNil))) (eNot (eCB bIsT (Jab (eVar 0) (Jab (eC (.ty "bool")) aNil))))))
noncomputable def Jb1:PSem := runP 1 1 Jln
noncomputable def Jlq:SSem :=
  (sRet (eAnd (Jam Jb1 (Jab (eVar 0) aNil)) (eUn (oTab Bc.D3) (eVar 0))))
noncomputable def Jcm:PSem := runP 1 1 Jlq
noncomputable def Jjw:SSem :=
  (sSeq (sIf (tOr (tNot (tVal (eCB bIsT (Jab (eVar 0) (Jab (eC (.ty "tuple")) aNil))))) (tVal (eOp (oEq true) (eCB bLen (Jab (eVar 0) aNil)) (eC (.int 2)))))
    (sRet (eC (.bl false)))
    sNil)
    (sRet (eAnd (Jam Jb1 (Jab (eOp oIx (eVar 0) (eC (.int 0))) aNil)) (eAnd (Jam Jb1 (Jab (eOp oIx (eVar 0) (eC (.int 1))) aNil)) (eOp oLt (eOp oIx (eVar 0) (eC (.int 0))) (eOp oIx (eVar 0) (eC (.int 1))))))))
noncomputable def Jcb:PSem := runP 1 1 Jjw
noncomputable def Jkp:ASem :=
  Jcg 1 [] (iSeq (eVar 1)) (Pat.sem (.nm 0)) tYes (Jam Jcb (Jab (eVar 0) aNil))
noncomputable def Jq1:SSem :=
  (sSeq (sIf (tOr (tNot (tVal (Jam Jcm (Jab (eVar 0) aNil)))) (tOr (tNot (tVal (eCB bIsT (Jab (eVar 1) (Jab (eC (.ty "tuple")) aNil))))) (tVal (eOp (oEq true) (eCB bLen (Jab (eVar 1) aNil)) (eVar 0)))))
    (sRet (eC (.bl false)))
    sNil)
    (sRet (eCB bAll (Jab (eFrz Jkp) aNil))))
noncomputable def Jc2:PSem := runP 2 2 Jq1
noncomputable def Jje:ASem :=
  Jcg 1 [1] (iSeq (eVar 2)) (Pat.sem (.nm 0)) tYes (Jam Jc2 (Jab (eVar 1) (Jab (eVar 0) aNil)))
noncomputable def Jn3:SSem :=
  (sSeq (sIf (tOr (tNot (tVal (eCB bIsT (Jab (eVar 0) (Jab (eC (.ty "tuple")) aNil))))) (tVal (eOp (oEq true) (eCB bLen (Jab (eVar 0) aNil)) (eC (.int 2)))))
    (sRet (eC (.bl false)))
    sNil)
    (sSeq (sSet 1 (eOp oIx (eVar 0) (eC (.int 0))))
    (sSeq (sSet 2 (eOp oIx (eVar 0) (eC (.int 1))))
    (sSeq (sIf (tOr (tNot (tVal (Jam Jcm (Jab (eVar 1) aNil)))) (tOr (tNot (tVal (eCB bIsT (Jab (eVar 2) (Jab (eC (.ty "list")) aNil))))) (tVal (eOp oGt (eCB bLen (Jab (eVar 2) aNil)) (eUn (Jql Bc.D3) (eVar 1))))))
    (sRet (eC (.bl false)))
    sNil)
    (sRet (eCB bAll (Jab (eFrz Jje) aNil)))))))
noncomputable def Jbz:PSem := runP 1 3 Jn3
noncomputable def Jkt:SSem :=
  (sIf (tNot (tVal (Jam Jbz (Jab (eVar 0) aNil))))
    Jnc
    sNil)
noncomputable def Jbm:PSem := runP 1 1 Jkt
noncomputable def Jg8:ASem :=
  Jcg 1 [] (iSeq (eVar 1)) (Pat.sem (.nm 0)) tYes (Jam Jb1 (Jab (eVar 0) aNil))
noncomputable def Jks:SSem :=
  (sIf (tOr (tNot (tVal (eCB bIsT (Jab (eVar 1) (Jab (eC (.ty "tuple")) aNil))))) (tOr (tVal (eOp (oEq true) (eCB bLen (Jab (eVar 1) aNil)) (eOp oIx (eVar 0) (eC (.int 0))))) (tNot (tVal (eCB bAll (Jab (eFrz Jg8) aNil))))))
    Jnc
    sNil)
noncomputable def Jdb:PSem := runP 2 2 Jks
noncomputable def Jhw:SSem :=
  (sSeq (sIf (tOr (tNot (tVal (Jam Jb1 (Jab (eVar 1) aNil)))) (tOr (tVal (eOp oLt (eVar 1) (eC (.int 0)))) (tVal (eOp oGe (eVar 1) (eCB bLen (Jab (eOp oIx (eVar 0) (eC (.int 1))) aNil))))))
    Jnc
    sNil)
    (sRet (eOp oIx (eOp oIx (eVar 0) (eC (.int 1))) (eVar 1))))
noncomputable def Jbx:PSem := runP 2 2 Jhw
noncomputable def Jih:SSem :=
  (sSet 1 (eOp oMul (eVar 1) (eOp oSub (eVar 3) (eVar 2))))
noncomputable def Jig:SSem :=
  sFor (iSeq (eVar 0)) (Pat.sem (.tp [(.nm 2),(.nm 3)]))
    Jih
noncomputable def Jlp:SSem :=
  (sSeq (sSet 1 (eC (.int 1)))
    (sSeq Jig
    (sRet (eVar 1))))
noncomputable def Jd8:PSem := runP 1 4 Jlp
noncomputable def Jmk:ASem :=
  Jcg 2 [] (Jrw (Jab (eVar 0) (Jab (eVar 1) aNil))) (Pat.sem (.tp [(.nm 0),(.nm 1)])) tYes (Jlr oLe oLt (eOp oIx (eVar 0) (eC (.int 0))) (eVar 1) (eOp oIx (eVar 0) (eC (.int 1))))
noncomputable def Jtv:SSem :=
  (sRet (eCB bAll (Jab (eFrz Jmk) aNil)))
noncomputable def Jf3:PSem := runP 2 2 Jtv
noncomputable def Jn2:SSem :=
  (sSeq (sExp (Jam Jbm (Jab (eVar 0) aNil)))
    (sRet (Jam Jd8 (Jab (Jam Jbx (Jab (eVar 0) (Jab (eVar 1) aNil))) aNil))))
noncomputable def Jba:PSem := runP 2 2 Jn2
noncomputable def Jif:ASem :=
  Jcg 2 [1] (Jq0 (Jab (eOp oIx (eVar 0) (eC (.int 1))) aNil)) (Pat.sem (.tp [(.nm 0),(.nm 1)])) (tVal (Jam Jf3 (Jab (eVar 1) (Jab (eVar 2) aNil)))) (eVar 0)
noncomputable def Jlo:SSem :=
  (sSeq (sExp (Jam Jbm (Jab (eVar 0) aNil)))
    (sSeq (sExp (Jam Jdb (Jab (eVar 0) (Jab (eVar 1) aNil))))
    (sRet (eFrz Jif))))
noncomputable def Jay:PSem := runP 2 2 Jlo
noncomputable def Jkw:SSem :=
  (sRet (eCB bLen (Jab (Jam Jay (Jab (eVar 0) (Jab (eVar 1) aNil))) aNil)))
noncomputable def Jcj:PSem := runP 2 2 Jkw
noncomputable def Jgf:ASem :=
  Jcg 2 [] (Jrw (Jab (eVar 0) (Jab (eVar 1) aNil))) (Pat.sem (.tp [(.nm 0),(.nm 1)])) tYes (eTup (Jab (eCB Jg0 (Jab (eOp oIx (eVar 0) (eC (.int 0))) (Jab (eOp oIx (eVar 1) (eC (.int 0))) aNil))) (Jab (eCB Jjn (Jab (eOp oIx (eVar 0) (eC (.int 1))) (Jab (eOp oIx (eVar 1) (eC (.int 1))) aNil))) aNil)))
noncomputable def Jge:ASem :=
  Jcg 1 [] (iSeq (eVar 2)) (Pat.sem (.nm 0)) tYes (Jam Jcb (Jab (eVar 0) aNil))
noncomputable def Jhf:SSem :=
  (sSeq (sSet 2 (eFrz Jgf))
    (sSeq (sIf (tVal (eCB bAll (Jab (eFrz Jge) aNil)))
    (sRet (eCB bTup (Jab (eVar 2) aNil)))
    sNil)
    (sRet (eC .non))))
noncomputable def Jcy:PSem := runP 2 3 Jhf
noncomputable def Jkx:SSem :=
  (sSeq (sExp (Jam Jbm (Jab (eVar 0) aNil)))
    (sRet (Jam Jcy (Jab (Jam Jbx (Jab (eVar 0) (Jab (eVar 1) aNil))) (Jab (Jam Jbx (Jab (eVar 0) (Jab (eVar 2) aNil))) aNil)))))
noncomputable def Ja1:PSem := runP 3 3 Jkx
noncomputable def Jgd:ASem :=
  Jcg 1 [1] (iSeq (eVar 0)) (Pat.sem (.nm 0)) tYes (eOp oIx (eOp oIx (eVar 0) (eVar 1)) (eC (.int 1)))
noncomputable def Jgc:ASem :=
  Jcg 1 [1] (iSeq (eVar 0)) (Pat.sem (.nm 0)) tYes (eOp oIx (eOp oIx (eVar 0) (eVar 1)) (eC (.int 0)))
noncomputable def Jjv:SSem :=
  (sRet (eTup (Jab (eCB Jwu (Jab (eFrz Jgc) aNil)) (Jab (eCB Jom (Jab (eFrz Jgd) aNil)) aNil))))
noncomputable def Jdi:PSem := runP 2 2 Jjv
noncomputable def Ji7:ASem :=
  Jcg 1 [0] (Jc0 (Jab (eOp oIx (eVar 0) (eC (.int 0))) aNil)) (Pat.sem (.nm 0)) tYes (Jam Jdi (Jab (eOp oIx (eVar 1) (eC (.int 1))) (Jab (eVar 0) aNil)))
noncomputable def Jiw:SSem :=
  (sSeq (sExp (Jam Jbm (Jab (eVar 0) aNil)))
    (sSeq (sIf (tVal (eOp (oEq false) (eCB bLen (Jab (eOp oIx (eVar 0) (eC (.int 1))) aNil)) (eC (.int 0))))
    (sRet (eC .non))
    sNil)
    (sRet (eCB bTup (Jab (eFrz Ji7) aNil)))))
noncomputable def Jcx:PSem := runP 1 1 Jiw
noncomputable def Jlk:SSem :=
  (sSeq (sIf (tVal (eOp oGe (eVar 0) (eOp oPow (eC (.int 10)) (eC (.int 18)))))
    (sRet (eFrz (Jab (eVar 0) (Jab (eOp oMod (eVar 0) (eC (.int 2147483629))) aNil))))
    sNil)
    (sRet (eFrz (Jab (eC (.int 0)) (Jab (eOp oMod (eVar 0) (eC (.int 2147483629))) aNil)))))
noncomputable def Jdm:PSem := runP 1 1 Jlk
noncomputable def Jji:SSem :=
  (sSeq (sIf (tVal (eOp oGt (eOp oIx (eVar 0) (eC (.int 0))) (eC (.int 0))))
    (sSeq (sSet 2 (eOp oMod (eOp oIx (eVar 0) (eC (.int 0))) (eVar 1)))
    (sSeq (Jjq (eOp oDiv (eOp oIx (eVar 0) (eC (.int 0))) (eVar 1)) (eVar 0) (eC (.int 0)))
    (sRet (eVar 2))))
    sNil)
    (sSeq (sSet 3 (eOp oMod (eOp oAdd (eOp oMul (eOp oIx (eVar 0) (eC (.int 1))) (eC (.int 48271))) (eC (.int 11))) (eC (.int 2147483647))))
    (sSeq (sSet 3 (eOp oMod (eOp oMul (eVar 3) (eVar 3)) (eC (.int 2147483587))))
    (sSeq (Jjq (eOp oMod (eOp oAdd (eOp oMul (eVar 3) (eC (.int 69621))) (eC (.int 40692))) (eC (.int 2147483629))) (eVar 0) (eC (.int 1)))
    (sRet (eOp oMod (eOp oMul (eOp oDiv (eOp oIx (eVar 0) (eC (.int 1))) (eC (.int 8))) (eOp oIx (eFrz (Jab (eC (.int 1)) (Jab (eC (.int 8191)) aNil))) (eCB bInt (Jab (eOp oGt (eVar 1) (eOp oPow (eC (.int 10)) (eC (.int 6)))) aNil)))) (eVar 1)))))))
noncomputable def Jah:MSem := runM 2 4 Jji
noncomputable def Jhb:ASem :=
  Jcg 1 [0] (Jc0 (Jab (eOp oAdd (eC (.int 2)) (eVar 1)) aNil)) (Pat.sem (.nm 0)) tYes (eOp oSub (Ja4 Jah (Jab (eVar 1) (Jab (eOp oAdd (eOp oMul (eC (.int 2)) (eOp oPow (eC (.int 10)) (eC (.int 9)))) (eC (.int 1))) aNil))) (eOp oPow (eC (.int 10)) (eC (.int 9))))
noncomputable def Jey:SSem :=
  (sSeq (sSet 2 (eOp oAdd (eOp oSub (Ja4 Jah (Jab (eVar 0) (Jab (eOp oSub (eOp oMul (eC (.int 2)) (eOp oPow (eC (.int 10)) (eC (.int 9)))) (eC (.int 20))) aNil))) (eOp oPow (eC (.int 10)) (eC (.int 9)))) (eC (.int 10))))
    (sSeq (sSet 3 (Ja4 Jah (Jab (eVar 0) (Jab (eC (.int 5)) aNil))))
    (sSeq (sIf (tVal (eOp oLt (eVar 3) (eC (.int 2))))
    (sRet (eOp oIx (eFrz (Jab (Jf9 (Jab (eC (.int 7)) aNil)) (Jab (Jf9 (Jab (eUn oNeg (eC (.int 3))) (Jab (eC (.int 4)) aNil))) aNil))) (eVar 3)))
    sNil)
    (sSeq (sIf (tVal (eOp (oEq false) (eVar 3) (eC (.int 2))))
    (sRet (Jf9 (Jab (eVar 2) (Jab (eOp oAdd (eVar 2) (eC (.int 6))) aNil))))
    sNil)
    (sSeq (sSet 4 (eFrz Jhb))
    (sSeq (sIf (tVal (eOp (oEq false) (eVar 3) (eC (.int 3))))
    (sSet 4 (eOp oAdd (eVar 4) (eFrz (Jab (eUn oNeg (eOp oPow (eC (.int 10)) (eC (.int 9)))) (Jab (eOp oPow (eC (.int 10)) (eC (.int 9))) aNil)))))
    sNil)
    (sRet (Jmp (eOp oAdd (eVar 4) (eFrz (Jab (eVar 2) (Jab (eOp oAdd (eVar 2) (eC (.int 1))) aNil))))))))))))
noncomputable def Jb5:MSem := runM 2 5 Jey
noncomputable def Jix:SSem :=
  (sSeq (sSet 2 (Ja4 Jah (Jab (eVar 0) (Jab (eOp oSub (eCB bLen (Jab (eVar 1) aNil)) (eC (.int 1))) aNil))))
    (sRet (eTup (Jab (eOp oIx (eVar 1) (eVar 2)) (Jab (eOp oIx (eVar 1) (eOp oAdd (eOp oAdd (eVar 2) (eC (.int 1))) (Ja4 Jah (Jab (eVar 0) (Jab (eOp oSub (eOp oSub (eCB bLen (Jab (eVar 1) aNil)) (eC (.int 1))) (eVar 2)) aNil))))) aNil)))))
noncomputable def Jb3:MSem := runM 2 3 Jix
noncomputable def Jh9:ASem :=
  Jcg 1 [] (iSeq (eVar 1)) (Pat.sem (.nm 0)) tYes (eTup (Jab (eOp oIx (eVar 0) (eC (.int 1))) (Jab (eOp oAdd (eOp oIx (eVar 0) (eC (.int 1))) (eC (.int 1))) aNil)))
noncomputable def Jex:SSem :=
  (sSeq (sSet 3 (Ja4 Jah (Jab (eVar 0) (Jab (eC (.int 6)) aNil))))
    (sSeq (sSet 4 (Ja4 Jah (Jab (eVar 0) (Jab (eCB bLen (Jab (eVar 1) aNil)) aNil))))
    (sSeq (sAsg (eOp oIx (eVar 1) (eVar 4)) (Pat.sem (.tp [(.nm 5),(.nm 6)])))
    (sSeq (sIf (tVal (eOp (oEq false) (eVar 3) (eC (.int 1))))
    (sRet (eOp oAdd (eOp oAdd (eSl oSl (eVar 1) Je6 (Je5 (eVar 4))) (eTup (Jab (eTup (Jab (eVar 6) (Jab (eOp oAdd (eOp oAdd (eVar 6) (eC (.int 1))) (Ja4 Jah (Jab (eVar 0) (Jab (eC (.int 3)) aNil)))) aNil))) aNil))) (eSl oSl (eVar 1) (Je5 (eOp oAdd (eVar 4) (eC (.int 1)))) Je6)))
    sNil)
    (sSeq (sIf (tVal (eOp (oEq false) (eVar 3) (eC (.int 2))))
    (sSeq (sSet 7 (eOp oAdd (eVar 5) (Ja4 Jah (Jab (eVar 0) (Jab (eOp oSub (eVar 6) (eVar 5)) aNil)))))
    (sRet (eOp oAdd (eOp oAdd (eSl oSl (eVar 1) Je6 (Je5 (eVar 4))) (eTup (Jab (eTup (Jab (eVar 7) (Jab (eVar 6) aNil))) aNil))) (eSl oSl (eVar 1) (Je5 (eOp oAdd (eVar 4) (eC (.int 1)))) Je6))))
    sNil)
    (sSeq (sIf (tVal (eOp (oEq false) (eVar 3) (eC (.int 3))))
    (sRet (eOp oAdd (eOp oAdd (eSl oSl (eVar 1) Je6 (Je5 (eVar 4))) (eTup (Jab (Ja4 Jb3 (Jab (eVar 0) (Jab (eOp oIx (eVar 2) (eVar 4)) aNil))) aNil))) (eSl oSl (eVar 1) (Je5 (eOp oAdd (eVar 4) (eC (.int 1)))) Je6)))
    sNil)
    (sSeq (sIf (tVal (eOp (oEq false) (eVar 3) (eC (.int 4))))
    (sRet (eOp oAdd (eOp oAdd (eSl oSl (eVar 1) Je6 (Je5 (eVar 4))) (eTup (Jab (eTup (Jab (eOp oSub (eOp oSub (eVar 5) (eC (.int 1))) (Ja4 Jah (Jab (eVar 0) (Jab (eC (.int 3)) aNil)))) (Jab (eVar 5) aNil))) aNil))) (eSl oSl (eVar 1) (Je5 (eOp oAdd (eVar 4) (eC (.int 1)))) Je6)))
    sNil)
    (sSeq (sIf (tVal (eOp (oEq false) (eVar 3) (eC (.int 5))))
    (sRet (eCB bTup (Jab (eFrz Jh9) aNil)))
    sNil)
    (sRet (eVar 1))))))))))
noncomputable def Jcd:MSem := runM 3 8 Jex
noncomputable def Jgq:ASem :=
  Jcg 1 [0,3] (Jc0 (Jab (eVar 1) aNil)) (Pat.sem (.nm 0)) tYes (Ja4 Jb5 (Jab (eVar 1) (Jab (eVar 2) aNil)))
noncomputable def Jgp:ASem :=
  Jcg 1 [0,4] (Jc0 (Jab (eVar 1) aNil)) (Pat.sem (.nm 0)) tYes (Ja4 Jb3 (Jab (eVar 1) (Jab (eOp oIx (eVar 2) (eVar 0)) aNil)))
noncomputable def Jgo:ASem :=
  Jcg 2 [] (iSeq (eVar 8)) (Pat.sem (.tp [(.nm 0),(.nm 1)])) tYes (eCB Jg0 (Jab (eCB bAbs (Jab (eVar 0) aNil)) (Jab (eCB bAbs (Jab (eVar 1) aNil)) aNil)))
noncomputable def Jgr:SSem :=
  (sSeq (sSet 8 (eCB bTup (Jab (eFrz Jgp) aNil)))
    (sSeq (sIf (tAnd (tVal (eOp (oEq true) (eVar 5) (eFrz aNil))) (tVal (eOp oLt (Ja4 Jah (Jab (eVar 0) (Jab (eC (.int 3)) aNil))) (eVar 6))))
    (sSet 8 (Ja4 Jcd (Jab (eVar 0) (Jab (eOp oIx (eVar 5) (Ja4 Jah (Jab (eVar 0) (Jab (eCB bLen (Jab (eVar 5) aNil)) aNil)))) (Jab (eVar 4) aNil)))))
    sNil)
    (sIf (tVal (eOp oLe (eCB Jom (Jab (eFrz Jgo) aNil)) (eOp oPow (eC (.int 10)) (eC (.int 9)))))
    (sExp (Jn8 Je3 (eVar 5) (Jab (eVar 8) aNil)))
    sNil)))
noncomputable def Jia:SSem :=
  sFor (Jc0 (Jab (eVar 3) aNil)) (Pat.sem (.nm 7))
    Jgr
noncomputable def Jjh:SSem :=
  (sSeq (sSet 3 (eOp oIx (eFrz (Jab (Ja4 Jah (Jab (eVar 0) (Jab (eOp oAdd (eCB Jjn (Jab (eVar 2) (Jab (eC (.int 4)) aNil))) (eC (.int 1))) aNil))) (Jab (Ja4 Jah (Jab (eVar 0) (Jab (eOp oAdd (eVar 2) (eC (.int 1))) aNil))) (Jab (eVar 2) aNil)))) (Ja4 Jah (Jab (eVar 0) (Jab (eC (.int 3)) aNil)))))
    (sSeq (sSet 4 (eFrz Jgq))
    (sSeq (sSet 5 (eSto aNil))
    (sSeq (sSet 6 (Ja4 Jah (Jab (eVar 0) (Jab (eC (.int 3)) aNil))))
    (sSeq Jia
    (sRet (eTup (Jab (eVar 1) (Jab (eVar 5) aNil)))))))))
noncomputable def Jcw:MSem := runM 3 9 Jjh
noncomputable def Jeh:SSem :=
  (sSeq (sSet 1 (eOp oAdd (eC (.int 1)) (Ja4 Jah (Jab (eVar 0) (Jab (eC (.int 3)) aNil)))))
    (sRet (Ja4 Jcw (Jab (eVar 0) (Jab (eVar 1) (Jab (eOp oIx (eFrz (Jab (eC (.int 0)) (Jab (eC (.int 20)) (Jab (eC (.int 10)) (Jab (eC (.int 6)) aNil))))) (eVar 1)) aNil))))))
noncomputable def Jbb:MSem := runM 1 2 Jeh
noncomputable def Jec:SSem :=
  (sIf (tOr (tVal (eOp oLt (eOp oIx (eVar 1) (eVar 2)) (eOp oIx (eOp oIx (eVar 0) (eVar 2)) (eC (.int 0))))) (tVal (eOp oGe (eOp oIx (eVar 1) (eVar 2)) (eOp oIx (eOp oIx (eVar 0) (eVar 2)) (eC (.int 1))))))
    (sRet (eC (.bl false)))
    sNil)
noncomputable def Je1:SSem :=
  sFor (Jc0 (Jab (eCB bLen (Jab (eVar 0) aNil)) aNil)) (Pat.sem (.nm 2))
    Jec
noncomputable def Jkv:SSem :=
  (sSeq Je1
    (sRet (eC (.bl true))))
noncomputable def Jci:PSem := runP 2 3 Jkv
noncomputable def Jd6:ASem :=
  Jcg 1 [0] (Jc0 (Jab (eVar 2) aNil)) (Pat.sem (.nm 0)) tYes (eOp oSub (Ja4 Jah (Jab (eVar 1) (Jab (eOp oAdd (eOp oMul (eC (.int 2)) (eOp oPow (eC (.int 10)) (eC (.int 9)))) (eC (.int 1))) aNil))) (eOp oPow (eC (.int 10)) (eC (.int 9))))
noncomputable def Jgn:SSem :=
  (sExp (Jn8 Je3 (eVar 5) (Jab (eOp oIx (eFrz (Jab (eVar 6) (Jab (eOp oSub (eVar 7) (eC (.int 1))) (Jab (eVar 7) (Jab (eOp oSub (eVar 6) (eC (.int 1))) (Jab (eOp oDiv (eOp oAdd (eVar 6) (eVar 7)) (eC (.int 2))) (Jab (eVar 6) aNil))))))) (Ja4 Jah (Jab (eVar 0) (Jab (eC (.int 6)) aNil)))) aNil)))
noncomputable def Jh7:SSem :=
  sFor (iSeq (eVar 4)) (Pat.sem (.tp [(.nm 6),(.nm 7)]))
    Jgn
noncomputable def Jh8:ASem :=
  Jcg 1 [] (iSeq (eVar 5)) (Pat.sem (.nm 0)) tYes (eCB Jg0 (Jab (eUn oNeg (eOp oPow (eC (.int 10)) (eC (.int 9)))) (Jab (eCB Jjn (Jab (eOp oPow (eC (.int 10)) (eC (.int 9))) (Jab (eVar 0) aNil))) aNil)))
noncomputable def Jll:SSem :=
  (sSeq (sAsg (eVar 1) (Pat.sem (.tp [(.nm 2),(.nm 3)])))
    (sSeq (sIf (tOr (tVal (eOp (oEq false) (eVar 3) (eFrz aNil))) (tVal (eOp (oEq false) (Ja4 Jah (Jab (eVar 0) (Jab (eC (.int 5)) aNil))) (eC (.int 0)))))
    (sRet (eCB bTup (Jab (eFrz Jd6) aNil)))
    sNil)
    (sSeq (sSet 4 (eOp oIx (eVar 3) (Ja4 Jah (Jab (eVar 0) (Jab (eCB bLen (Jab (eVar 3) aNil)) aNil)))))
    (sSeq (sSet 5 (eSto aNil))
    (sSeq Jh7
    (sRet (eCB bTup (Jab (eFrz Jh8) aNil))))))))
noncomputable def Jcv:MSem := runM 2 8 Jll
noncomputable def Jic:ASem :=
  Jcg 2 [] (iSeq (eVar 2)) (Pat.sem (.tp [(.nm 0),(.nm 1)])) tYes (eTup (Jab (eOp oDiv (eVar 0) (eC (.int 2))) (Jab (eCB Jg0 (Jab (eOp oAdd (eOp oDiv (eVar 0) (eC (.int 2))) (eC (.int 1))) (Jab (eOp oDiv (eVar 1) (eC (.int 2))) aNil))) aNil)))
noncomputable def Jgs:SSem :=
  (sExp (Jn8 Je3 (eVar 1) (Jab (eCB bTup (Jab (eFrz Jic) aNil)) aNil)))
noncomputable def Jib:SSem :=
  sFor (iSeq (eOp oIx (eVar 0) (eC (.int 1)))) (Pat.sem (.nm 2))
    Jgs
noncomputable def Jlm:SSem :=
  (sSeq (sSet 1 (eSto aNil))
    (sSeq Jib
    (sRet (eTup (Jab (eOp oIx (eVar 0) (eC (.int 0))) (Jab (eVar 1) aNil))))))
noncomputable def Jdn:PSem := runP 1 3 Jlm
noncomputable def Jhg:SSem :=
  (sSeq (sSet 4 (Jam Ja1 (Jab (eVar 0) (Jab (eVar 1) (Jab (eVar 2) aNil)))))
    (sSeq (sIf (tVal (eOp (oEq true) (eVar 4) (Jam Ja1 (Jab (eVar 0) (Jab (eVar 2) (Jab (eVar 1) aNil))))))
    (sRet (eC (.bl false)))
    sNil)
    (sSeq (sIf (tVal (eOp (oEq true) (Jam Ja1 (Jab (eVar 0) (Jab (eVar 1) (Jab (eVar 1) aNil)))) (eOp oIx (eOp oIx (eVar 0) (eC (.int 1))) (eVar 1))))
    (sRet (eC (.bl false)))
    sNil)
    (sSeq (sSet 5 (Jam Jay (Jab (eVar 0) (Jab (eVar 3) aNil))))
    (sSeq (sSet 6 (eAnd (eOp (oIn false) (eVar 1) (eVar 5)) (eOp (oIn false) (eVar 2) (eVar 5))))
    (sSeq (sIf (tVal (eOp (oIsN false) (eVar 4) (eC .non)))
    (sRet (eNot (eVar 6)))
    sNil)
    (sSeq (sIf (tOr (tNot (tVal (Jam Jc2 (Jab (eOp oIx (eVar 0) (eC (.int 0))) (Jab (eVar 4) aNil))))) (tVal (eOp (oEq true) (eVar 6) (Jam Jci (Jab (eVar 4) (Jab (eVar 3) aNil))))))
    (sRet (eC (.bl false)))
    sNil)
    (sSeq (sSet 7 (Jam Jba (Jab (eTup (Jab (eOp oIx (eVar 0) (eC (.int 0))) (Jab (eFrz (Jab (eVar 4) aNil)) aNil))) (Jab (eC (.int 0)) aNil))))
    (sRet (Jlr oLe oLe (eC (.int 1)) (eVar 7) (eCB Jjn (Jab (Jam Jba (Jab (eVar 0) (Jab (eVar 1) aNil))) (Jab (Jam Jba (Jab (eVar 0) (Jab (eVar 2) aNil))) aNil)))))))))))))
noncomputable def Jb0:PSem := runP 4 8 Jhg
noncomputable def Jfv:ASem :=
  Jcg 2 [1] (iSeq (eVar 5)) (Pat.sem (.tp [(.nm 0),(.nm 1)])) tYes (eTup (Jab (eOp oAdd (eVar 0) (eVar 2)) (Jab (eOp oAdd (eVar 1) (eVar 2)) aNil)))
noncomputable def Jha:ASem :=
  Jcg 1 [6] (iSeq (eVar 3)) (Pat.sem (.nm 0)) tYes (eOp oIx (eVar 1) (eVar 0))
noncomputable def Jfw:SSem :=
  (sSeq (sSet 6 (eSto Jfv))
    (sSeq (sIf (tVal (eVar 2))
    (Jjq (eTup (Jab (eOp oSub (eC (.int 1)) (eOp oIx (eOp oIx (eVar 6) (eC (.int 0))) (eC (.int 1)))) (Jab (eOp oSub (eC (.int 1)) (eOp oIx (eOp oIx (eVar 6) (eC (.int 0))) (eC (.int 0)))) aNil))) (eVar 6) (eC (.int 0)))
    sNil)
    (sExp (Jn8 Je3 (eVar 4) (Jab (eCB bTup (Jab (eFrz Jha) aNil)) aNil)))))
noncomputable def Jg9:SSem :=
  sFor (iSeq (eOp oIx (eVar 0) (eC (.int 1)))) (Pat.sem (.nm 5))
    Jfw
noncomputable def Jku:SSem :=
  (sSeq (sSet 4 (eSto aNil))
    (sSeq Jg9
    (sRet (eTup (Jab (eOp oIx (eVar 0) (eC (.int 0))) (Jab (eVar 4) aNil))))))
noncomputable def Jdc:PSem := runP 4 7 Jku
noncomputable def Jdw:ASem :=
  Jcg 1 [1] (iSeq (eVar 0)) (Pat.sem (.nm 0)) tYes (eOp oAdd (eVar 0) (eVar 1))
noncomputable def Jev:ASem :=
  Jcg 1 [4] (iSeq (eVar 3)) (Pat.sem (.nm 0)) tYes (eOp oIx (eVar 1) (eVar 0))
noncomputable def Jgy:SSem :=
  (sSeq (sSet 4 (eSto Jdw))
    (sSeq (sIf (tVal (eVar 2))
    (Jjq (eOp oSub (eC (.int 0)) (eOp oIx (eVar 4) (eC (.int 0)))) (eVar 4) (eC (.int 0)))
    sNil)
    (sRet (eCB bTup (Jab (eFrz Jev) aNil)))))
noncomputable def Jb4:PSem := runP 4 5 Jgy
noncomputable def Jqr:ASem :=
  Jcg 1 [] (iSeq (Ja4 Jcv (Jab (eVar 2) (Jab (eVar 3) aNil)))) (Pat.sem (.nm 0)) tYes (eOp oDiv (eVar 0) (eC (.int 2)))
noncomputable def Jqq:ASem :=
  Jcg 1 [4] (iSeq (eUn Jh5 (eVar 11))) (Pat.sem (.nm 0)) tYes (eOp oSub (eOp oSub (eVar 1) (eC (.int 1))) (eVar 0))
noncomputable def Jqu:SSem :=
  (sSeq (sSet 10 (eCB bTup (Jab (eFrz Jqr) aNil)))
    (sSeq (sSet 11 (Jam Jay (Jab (eVar 3) (Jab (eVar 10) aNil))))
    (sSeq (sSet 12 (Jam Jb4 (Jab (eVar 10) (Jab (eVar 5) (Jab (eVar 6) (Jab (eVar 7) aNil))))))
    (sSeq (sIf (tOr (tVal (eOp (oEq true) (Jam Jcj (Jab (eVar 3) (Jab (eVar 10) aNil))) (eCB bLen (Jab (eVar 11) aNil)))) (tVal (eOp (oEq true) (Jam Jay (Jab (eVar 8) (Jab (eVar 12) aNil))) (eVar 11))))
    (sRet (eC (.bl false)))
    sNil)
    (sSeq (sSet 13 (eFrz Jqq))
    (sSeq (sIf (tVal (eOp (oEq true) (Jam Jay (Jab (eTup (Jab (eOp oIx (eVar 3) (eC (.int 0))) (Jab (eUn Jh5 (eOp oIx (eVar 3) (eC (.int 1)))) aNil))) (Jab (eVar 10) aNil))) (eVar 13)))
    (sRet (eC (.bl false)))
    sNil)
    (sSeq (sSet 14 (Ja4 Jah (Jab (eVar 2) (Jab (eCB Jg0 (Jab (eC (.int 1)) (Jab (eVar 4) aNil))) aNil))))
    (sSeq (sSet 15 (Ja4 Jah (Jab (eVar 2) (Jab (eCB Jg0 (Jab (eC (.int 1)) (Jab (eVar 4) aNil))) aNil))))
    (sIf (tAnd (tVal (eOp oGt (eVar 4) (eC (.int 0)))) (tNot (tVal (Jam Jb0 (Jab (eVar 3) (Jab (eVar 14) (Jab (eVar 15) (Jab (eVar 10) aNil))))))))
    (sRet (eC (.bl false)))
    sNil)))))))))
noncomputable def Jti:SSem :=
  sFor (Jc0 (Jab (eC (.int 6)) aNil)) (Pat.sem (.nm 9))
    Jqu
noncomputable def Jqt:SSem :=
  (sSeq (sSet 17 (Jam Ja1 (Jab (eTup (Jab (eOp oIx (eVar 3) (eC (.int 0))) (Jab (eFrz (Jab (eOp oIx (eOp oIx (eVar 3) (eC (.int 1))) (eVar 16)) (Jab (Jam Jcx (Jab (eVar 3) aNil)) aNil))) aNil))) (Jab (eC (.int 0)) (Jab (eC (.int 1)) aNil)))))
    (sSeq (sIf (tVal (eOp (oEq true) (eVar 17) (eOp oIx (eOp oIx (eVar 3) (eC (.int 1))) (eVar 16))))
    (sRet (eC (.bl false)))
    sNil)
    (sIf (tVal (eOp (oEq true) (Jam Jba (Jab (eVar 8) (Jab (eVar 16) aNil))) (Jam Jba (Jab (eVar 3) (Jab (eVar 16) aNil)))))
    (sRet (eC (.bl false)))
    sNil)))
noncomputable def Jth:SSem :=
  sFor (Jc0 (Jab (eVar 4) aNil)) (Pat.sem (.nm 16))
    Jqt
noncomputable def Jqs:SSem :=
  (sSeq (sSet 2 (Jn7 Jdm (Jab (eVar 1) aNil)))
    (sSeq (sSet 3 (Jam Jdn (Jab (Ja4 Jbb (Jab (eVar 2) aNil)) aNil)))
    (sSeq (sSet 4 (eCB bLen (Jab (eOp oIx (eVar 3) (eC (.int 1))) aNil)))
    (sSeq (sSet 5 (eOp oSub (Ja4 Jah (Jab (eVar 2) (Jab (eOp oMul (eC (.int 2)) (eOp oPow (eC (.int 10)) (eC (.int 8)))) aNil))) (eOp oPow (eC (.int 10)) (eC (.int 8)))))
    (sSeq (sSet 6 (eOp (oEq false) (Ja4 Jah (Jab (eVar 2) (Jab (eC (.int 2)) aNil))) (eC (.int 1))))
    (sSeq (sSet 7 (eOp oIx (eFrz (Jab (eFrz (Jab (eC (.int 0)) aNil)) (Jab (eFrz (Jab (eC (.int 0)) (Jab (eC (.int 1)) aNil))) (Jab (eFrz (Jab (eC (.int 0)) (Jab (eC (.int 1)) (Jab (eC (.int 2)) aNil)))) aNil)))) (eOp oSub (eOp oIx (eVar 3) (eC (.int 0))) (eC (.int 1)))))
    (sSeq (sSet 7 (eOp oIx (eFrz (Jab (eVar 7) (Jab (eUn Jh5 (eVar 7)) (Jab (eOp oAdd (eSl oSl (eVar 7) (Je5 (eC (.int 1))) Je6) (eSl oSl (eVar 7) Je6 (Je5 (eC (.int 1))))) aNil)))) (Ja4 Jah (Jab (eVar 2) (Jab (eC (.int 3)) aNil)))))
    (sSeq (sSet 8 (Jam Jdc (Jab (eVar 3) (Jab (eVar 5) (Jab (eVar 6) (Jab (eVar 7) aNil))))))
    (sSeq (sIf (tOr (tNot (tVal (Jam Jbz (Jab (eVar 3) aNil)))) (tNot (tVal (Jam Jbz (Jab (eVar 8) aNil)))))
    (sRet (eC (.bl false)))
    sNil)
    (sSeq Jti
    Jth))))))))))
noncomputable def Jtg:SSem :=
  sFor (iSeq (eOp oAdd (eFrz (Jab (eC (.int 0)) (Jab (eC (.int 5)) aNil))) (eSl oSl (eVar 0) Je6 (Je5 (eC (.int 6)))))) (Pat.sem (.nm 1))
    Jqs
noncomputable def JCf:SSem :=
  (sSeq Jtg
    (sRet (eC (.bl true))))
noncomputable def Jov:PSem := runP 1 18 JCf
end W06
end
section
set_option Elab.async false
set_option maxRecDepth 10000
set_option linter.all false
namespace W06
open PySem PySem.Spec L2 VS
def top (i : Nat) : Stmt := PySem.Challenge.pw_boxcover_k06_whole_boxes_and_spots.main.body.getD i (.Pass ⟨0, 0, 0, 0⟩)
abbrev Je9:Stmt := top 7
abbrev Jfb:Stmt := top 8
abbrev Jea:Stmt := top 9
abbrev Jgi:Stmt := top 10
abbrev Jfe:Stmt := top 11
abbrev Jen:Stmt := top 12
abbrev Jd4:Stmt := top 13
abbrev Jdj:Stmt := top 14
abbrev Jfa:Stmt := top 15
abbrev Jh2:Stmt := top 16
abbrev Jf5:Stmt := top 17
abbrev Jet:Stmt := top 18
abbrev Jer:Stmt := top 19
abbrev Jc9:Stmt := top 20
abbrev Jes:Stmt := top 21
abbrev Jc8:Stmt := top 22
abbrev Jfd:Stmt := top 23
abbrev Je7:Stmt := top 25
abbrev Je8:Stmt := top 26
abbrev Jd5:Stmt := top 27
abbrev Jdt:Stmt := top 28
abbrev Jeo:Stmt := top 29
abbrev Jdu:Stmt := top 30
abbrev Jc4:Stmt := top 31
abbrev Jep:Stmt := top 32
abbrev Jd9:Stmt := top 33
abbrev Jeq:Stmt := top 34
abbrev Jc3:Stmt := top 35
abbrev Jdp:Stmt := top 36
abbrev Jb7:Stmt := top 37
abbrev Jki:Stmt := top 38
theorem Jox:Jbp ["thing"] ["thing"] (Jai Je9) := ⟨rfl,rfl,rfl,by decide +kernel,rfl,by decide +kernel,by decide +kernel⟩
theorem Joz:Jbp ["thing"] ["thing"] (Jai Jfb) := ⟨rfl,rfl,rfl,by decide +kernel,rfl,by decide +kernel,by decide +kernel⟩
theorem Jl3:Jbp ["thing"] ["thing"] (Jai Jea) := ⟨rfl,rfl,rfl,by decide +kernel,rfl,by decide +kernel,by decide +kernel⟩
theorem Jsn:Jbp ["ways","thing"] ["ways","thing"] (Jai Jgi) := ⟨rfl,rfl,rfl,by decide +kernel,rfl,by decide +kernel,by decide +kernel⟩
theorem Jja:Jbp ["thing","ways","boxes"] ["thing"] (Jai Jfe) := ⟨rfl,rfl,rfl,by decide +kernel,rfl,by decide +kernel,by decide +kernel⟩
theorem Jm8:Jbp ["heap"] ["heap"] (Jai Jen) := ⟨rfl,rfl,rfl,by decide +kernel,rfl,by decide +kernel,by decide +kernel⟩
theorem Jm7:Jbp ["heap","spot"] ["heap","spot"] (Jai Jd4) := ⟨rfl,rfl,rfl,by decide +kernel,rfl,by decide +kernel,by decide +kernel⟩
theorem Jkh:Jbp ["heap","number"] ["heap","number"] (Jai Jdj) := ⟨rfl,rfl,rfl,by decide +kernel,rfl,by decide +kernel,by decide +kernel⟩
theorem Jfc:Jbp ["box","size","low","high"] ["box"] (Jai Jfa) := ⟨rfl,rfl,rfl,by decide +kernel,rfl,by decide +kernel,by decide +kernel⟩
theorem Ju2:Jbp ["box","spot"] ["box","spot"] (Jai Jh2) := ⟨rfl,rfl,rfl,by decide +kernel,rfl,by decide +kernel,by decide +kernel⟩
theorem Jrg:Jbp ["heap","number"] ["heap","number"] (Jai Jf5) := ⟨rfl,rfl,rfl,by decide +kernel,rfl,by decide +kernel,by decide +kernel⟩
theorem Joy:Jbp ["heap","spot"] ["heap","spot"] (Jai Jet) := ⟨rfl,rfl,rfl,by decide +kernel,rfl,by decide +kernel,by decide +kernel⟩
theorem Jm9:Jbp ["heap","spot"] ["heap","spot"] (Jai Jer) := ⟨rfl,rfl,rfl,by decide +kernel,rfl,by decide +kernel,by decide +kernel⟩
theorem Jin:Jbp ["one","other","shared"] ["one","other"] (Jai Jc9) := ⟨rfl,rfl,rfl,by decide +kernel,rfl,by decide +kernel,by decide +kernel⟩
theorem Jna:Jbp ["heap","one","other"] ["heap","one","other"] (Jai Jes) := ⟨rfl,rfl,rfl,by decide +kernel,rfl,by decide +kernel,by decide +kernel⟩
theorem Jl2:Jbp ["boxes","way"] ["boxes","way"] (Jai Jc8) := ⟨rfl,rfl,rfl,by decide +kernel,rfl,by decide +kernel,by decide +kernel⟩
theorem Jrf:Jbp ["heap"] ["heap"] (Jai Jfd) := ⟨rfl,rfl,rfl,by decide +kernel,rfl,by decide +kernel,by decide +kernel⟩
theorem Jow:Jbp ["cell"] ["cell"] (Jai Je7) := ⟨rfl,rfl,rfl,by decide +kernel,rfl,by decide +kernel,by decide +kernel⟩
theorem Jgh:Jbp ["well","many","got","stirred"] ["well","many"] (Jai Je8) := ⟨rfl,rfl,rfl,by decide +kernel,rfl,by decide +kernel,by decide +kernel⟩
theorem Je0:Jbp ["well","many","far","way","some"] ["well","many"] (Jai Jd5) := ⟨rfl,rfl,rfl,by decide +kernel,rfl,by decide +kernel,by decide +kernel⟩
theorem Jhu:Jbp ["well","marks","at"] ["well","marks"] (Jai Jdt) := ⟨rfl,rfl,rfl,by decide +kernel,rfl,by decide +kernel,by decide +kernel⟩
theorem Jem:Jbp ["well","box","marks","way","at","low","high","inner"] ["well","box","marks"] (Jai Jeo) := ⟨rfl,rfl,rfl,by decide +kernel,rfl,by decide +kernel,by decide +kernel⟩
theorem Jdo:Jbp ["well","ways","most","many","marks","boxes","alike","k","box"] ["well","ways","most"] (Jai Jdu) := ⟨rfl,rfl,rfl,by decide +kernel,rfl,by decide +kernel,by decide +kernel⟩
theorem Jgx:Jbp ["well","ways"] ["well"] (Jai Jc4) := ⟨rfl,rfl,rfl,by decide +kernel,rfl,by decide +kernel,by decide +kernel⟩
theorem Jjp:Jbp ["box","spot","k"] ["box","spot"] (Jai Jep) := ⟨rfl,rfl,rfl,by decide +kernel,rfl,by decide +kernel,by decide +kernel⟩
theorem Jd3:Jbp ["well","heap","ways","boxes","box","found","low","high"] ["well","heap"] (Jai Jd9) := ⟨rfl,rfl,rfl,by decide +kernel,rfl,by decide +kernel,by decide +kernel⟩
theorem Jh1:Jbp ["heap","found","box"] ["heap"] (Jai Jeq) := ⟨rfl,rfl,rfl,by decide +kernel,rfl,by decide +kernel,by decide +kernel⟩
theorem Jdh:Jbp ["heap","one","other","spot","both","at","held","size"] ["heap","one","other","spot"] (Jai Jc3) := ⟨rfl,rfl,rfl,by decide +kernel,rfl,by decide +kernel,by decide +kernel⟩
theorem Jfr:Jbp ["heap","by","mirrored","ways","found","box","moved"] ["heap","by","mirrored","ways"] (Jai Jdp) := ⟨rfl,rfl,rfl,by decide +kernel,rfl,by decide +kernel,by decide +kernel⟩
theorem Jf4:Jbp ["spot","by","mirrored","ways","found"] ["spot","by","mirrored","ways"] (Jai Jb7) := ⟨rfl,rfl,rfl,by decide +kernel,rfl,by decide +kernel,by decide +kernel⟩
theorem Jee:Jbp ["script","cell","well","heap","many","by","mirrored","ways","other","turn","spot","at","moved","due","one","two","number","both"] ["script"] (Jai Jki) := ⟨rfl,rfl,rfl,by decide +kernel,rfl,by decide +kernel,by decide +kernel⟩
section
variable {P:Program} {w:World} {K:PySem.W.Frag} {mg:Str → Option Value} {base:Heap}
set_option maxHeartbeats 4000000 in
theorem Jo8 {f:Addr} {fd:FuncData} (F:Fun K "is_whole" "is_whole" Je9 f fd) (B:Blt mg):FnOk P w K mg base CX0 1 f fd ["thing"] (spP K Jb1 1) :=
  fnP F Jox fun cdv A outer s H E hr =>
    (Jao (Ja8 (Jnu (Jat Jgu Jhz rfl (B.is "isinstance") Jdg (Jaa (Jac 0) (Jaa (Jph (n := "int") rfl (B.is "int") Jxp) Jaf))) (Jqv (Jw6 (Jat Jgu Jhz rfl (B.is "isinstance") Jdg (Jaa (Jac 0) (Jaa (Jph (n := "bool") rfl (B.is "bool") Jz2) Jaf))))))))
set_option maxHeartbeats 4000000 in
theorem Jpb {f:Addr} {fd:FuncData} (F:Fun K "are_ways" "are_ways" Jfb f fd) (B:Blt mg) {d_MOST_BOXES:Addr} (M_MOST_BOXES:mg "MOST_BOXES" = some (.ref d_MOST_BOXES)) (T_MOST_BOXES:∀ h,K.In h → PyProof.Rows.IntTab P w h d_MOST_BOXES Bc.D3) (c_is_whole:CalP P w K mg base "is_whole" 1 Jb1):FnOk P w K mg base CX0 2 f fd ["thing"] (spP K Jcm 1) :=
  fnP F Joz fun cdv A outer s H E hr =>
    (Jao (Ja8 (Jnu (Jaq c_is_whole hr (by omega) rfl (Jaa (Jac 0) Jaf)) (Jqv (Jv0 T_MOST_BOXES (Jac 0) rfl M_MOST_BOXES)))))
set_option maxHeartbeats 4000000 in
theorem Jl9 {f:Addr} {fd:FuncData} (F:Fun K "is_stretch" "is_stretch" Jea f fd) (B:Blt mg) (c_is_whole:CalP P w K mg base "is_whole" 1 Jb1):FnOk P w K mg base CX0 2 f fd ["thing"] (spP K Jcb 1) :=
  fnP F Jl3 fun cdv A outer s H E hr =>
    (Jak (Jdq (Jjc (Jid (Jfx (Jel (Jat Jgu Jhz rfl (B.is "isinstance") Jdg (Jaa (Jac 0) (Jaa (Jph (n := "tuple") rfl (B.is "tuple") Jdk) Jaf))))) (Jhc (Jcf (Jf8 hr) Jf2 (Jat Jbk Jdx rfl (B.is "len") Je4 (Jaa (Jac 0) Jaf)) Jag (Jb8 _)))))
      (Jao (Ja8 Jhr))
      Jbq)
      (Jao (Ja8 (Jnu (Jaq c_is_whole hr (by omega) rfl (Jaa (Jbl Jas Jar (Jac 0) Jag (fun _ _ => rfl)) Jaf)) (Jnu (Jaq c_is_whole hr (by omega) rfl (Jaa (Jbl Jas Jar (Jac 0) Jag (fun _ _ => rfl)) Jaf)) (Jqv (Jnt Jrj Jlg (Jbl Jas Jar (Jac 0) Jag (fun _ _ => rfl)) (Jbl Jas Jar (Jac 0) Jag (fun _ _ => rfl)) (Jb8 _))))))))
set_option maxHeartbeats 4000000 in
theorem Js2 {f:Addr} {fd:FuncData} (F:Fun K "is_box" "is_box" Jgi f fd) (B:Blt mg) (c_are_ways:CalP P w K mg base "are_ways" 2 Jcm) (c_is_stretch:CalP P w K mg base "is_stretch" 2 Jcb):FnOk P w K mg base CX0 3 f fd ["ways","thing"] (spP K Jc2 2) :=
  fnP F Jsn fun cdv A outer s H E hr =>
    (Jak (Jdq (Jjc (Jid (Jfx (Jel (Jaq c_are_ways hr (by omega) rfl (Jaa (Jac 0) Jaf)))) (Jid (Jfx (Jel (Jat Jgu Jhz rfl (B.is "isinstance") Jdg (Jaa (Jac 1) (Jaa (Jph (n := "tuple") rfl (B.is "tuple") Jdk) Jaf))))) (Jhc (Jcf (Jf8 hr) Jf2 (Jat Jbk Jdx rfl (B.is "len") Je4 (Jaa (Jac 1) Jaf)) (Jac 0) (Jb8 _))))))
      (Jao (Ja8 Jhr))
      Jbq)
      (Jao (Ja8 (Jat (Ji5 rfl) Jkf rfl (B.is "all") Joh (Jaa (Jcl rfl (Jcn.of (sc := Jai Jgi) (N := ["ways","thing"]) (N2 := ["part"]) (k := 1) (caps := []) (by decide +kernel)) rfl (Jdz (Jac 1)) ⟨fun _ _ _ _ _ => ⟨(Ja5 (i := 0) (show List.Nodup (["part"]:List Str) by decide +kernel)),Jcq,(Jaq c_is_stretch hr (by omega) rfl (Jaa (Jac 0) Jaf))⟩⟩) Jaf)))))
set_option maxHeartbeats 4000000 in
theorem Jrn {f:Addr} {fd:FuncData} (F:Fun K "is_heap" "is_heap" Jfe f fd) (B:Blt mg) {d_MOST_BOXES:Addr} (M_MOST_BOXES:mg "MOST_BOXES" = some (.ref d_MOST_BOXES)) (T_MOST_BOXES:∀ h,K.In h → PyProof.Rows.IntTab P w h d_MOST_BOXES Bc.D3) (c_are_ways:CalP P w K mg base "are_ways" 2 Jcm) (c_is_box:CalP P w K mg base "is_box" 3 Jc2):FnOk P w K mg base CX0 4 f fd ["thing"] (spP K Jbz 1) :=
  fnP F Jja fun cdv A outer s H E hr =>
    (Jak (Jdq (Jjc (Jid (Jfx (Jel (Jat Jgu Jhz rfl (B.is "isinstance") Jdg (Jaa (Jac 0) (Jaa (Jph (n := "tuple") rfl (B.is "tuple") Jdk) Jaf))))) (Jhc (Jcf (Jf8 hr) Jf2 (Jat Jbk Jdx rfl (B.is "len") Je4 (Jaa (Jac 0) Jaf)) Jag (Jb8 _)))))
      (Jao (Ja8 Jhr))
      Jbq)
      (Jak (Jbs (i := 1) Jja.nd (Jbl Jas Jar (Jac 0) Jag (fun _ _ => rfl)))
      (Jak (Jbs (i := 2) Jja.nd (Jbl Jas Jar (Jac 0) Jag (fun _ _ => rfl)))
      (Jak (Jdq (Jjc (Jid (Jfx (Jel (Jaq c_are_ways hr (by omega) rfl (Jaa (Jac 1) Jaf)))) (Jid (Jfx (Jel (Jat Jgu Jhz rfl (B.is "isinstance") Jdg (Jaa (Jac 2) (Jaa (Jph (n := "list") rfl (B.is "list") Jud) Jaf))))) (Jhc (Jcf Jvg Jqa (Jat Jbk Jdx rfl (B.is "len") Je4 (Jaa (Jac 2) Jaf)) (Jvz T_MOST_BOXES (Jac 1) rfl M_MOST_BOXES (fun _ _ => rfl)) (Jb8 _))))))
      (Jao (Ja8 Jhr))
      Jbq)
      (Jao (Ja8 (Jat (Ji5 rfl) Jkf rfl (B.is "all") Joh (Jaa (Jcl rfl (Jcn.of (sc := Jai Jfe) (N := ["thing","ways","boxes"]) (N2 := ["box","ways"]) (k := 1) (caps := [1]) (by decide +kernel)) rfl (Jdz (Jac 2)) ⟨fun _ _ _ _ _ => ⟨(Ja5 (i := 0) (show List.Nodup (["box","ways"]:List Str) by decide +kernel)),Jcq,(Jaq c_is_box hr (by omega) rfl (Jaa (Jac 1) (Jaa (Jac 0) Jaf)))⟩⟩) Jaf))))))))
set_option maxHeartbeats 4000000 in
theorem Jng {f:Addr} {fd:FuncData} (F:Fun K "need_heap" "need_heap" Jen f fd) (B:Blt mg) (c_is_heap:CalP P w K mg base "is_heap" 4 Jbz):FnOk P w K mg base CX0 5 f fd ["heap"] (spP K Jbm 1) :=
  fnP F Jm8 fun cdv A outer s H E hr =>
    (Jao (Jdq (Jfx (Jel (Jaq c_is_heap hr (by omega) rfl (Jaa (Jac 0) Jaf))))
      (Jao Jmg)
      Jbq))
set_option maxHeartbeats 4000000 in
theorem Jnf {f:Addr} {fd:FuncData} (F:Fun K "need_spot" "need_spot" Jd4 f fd) (B:Blt mg) (c_is_whole:CalP P w K mg base "is_whole" 1 Jb1):FnOk P w K mg base CX0 2 f fd ["heap","spot"] (spP K Jdb 2) :=
  fnP F Jm7 fun cdv A outer s H E hr =>
    (Jao (Jdq (Jjc (Jid (Jfx (Jel (Jat Jgu Jhz rfl (B.is "isinstance") Jdg (Jaa (Jac 1) (Jaa (Jph (n := "tuple") rfl (B.is "tuple") Jdk) Jaf))))) (Jid (Jcf (Jf8 hr) Jf2 (Jat Jbk Jdx rfl (B.is "len") Je4 (Jaa (Jac 1) Jaf)) (Jbl Jas Jar (Jac 0) Jag (fun _ _ => rfl)) (Jb8 _)) (Jhc (Jfx (Jel (Jat (Ji5 rfl) Jkf rfl (B.is "all") Joh (Jaa (Jcl rfl (Jcn.of (sc := Jai Jd4) (N := ["heap","spot"]) (N2 := ["number"]) (k := 1) (caps := []) (by decide +kernel)) rfl (Jdz (Jac 1)) ⟨fun _ _ _ _ _ => ⟨(Ja5 (i := 0) (show List.Nodup (["number"]:List Str) by decide +kernel)),Jcq,(Jaq c_is_whole hr (by omega) rfl (Jaa (Jac 0) Jaf))⟩⟩) Jaf))))))))
      (Jao Jmg)
      Jbq))
set_option maxHeartbeats 4000000 in
theorem Jkn {f:Addr} {fd:FuncData} (F:Fun K "numbered_box" "numbered_box" Jdj f fd) (B:Blt mg) (c_is_whole:CalP P w K mg base "is_whole" 1 Jb1):FnOk P w K mg base CX0 2 f fd ["heap","number"] (spP K Jbx 2) :=
  fnP F Jkh fun cdv A outer s H E hr =>
    (Jak (Jdq (Jjc (Jid (Jfx (Jel (Jaq c_is_whole hr (by omega) rfl (Jaa (Jac 1) Jaf)))) (Jid (Jcf Jrj Jlg (Jac 1) Jag (Jb8 _)) (Jhc (Jcf Jyx Jsg (Jac 1) (Jat Jbk Jdx rfl (B.is "len") Je4 (Jaa (Jbl Jas Jar (Jac 0) Jag (fun _ _ => rfl)) Jaf)) (Jb8 _))))))
      (Jao Jmg)
      Jbq)
      (Jao (Ja8 (Jbl Jas Jar (Jbl Jas Jar (Jac 0) Jag (fun _ _ => rfl)) (Jac 1) (fun _ _ => rfl)))))
set_option maxHeartbeats 4000000 in
theorem Jpa {f:Addr} {fd:FuncData} (F:Fun K "box_size" "box_size" Jfa f fd) (B:Blt mg):FnOk P w K mg base CX0 1 f fd ["box"] (spP K Jd8 1) :=
  fnP F Jfc fun cdv A outer s H E hr =>
    (Jak (Jbs (i := 1) Jfc.nd Jag)
      (Jak (Jir rfl (Jdz (Jac 0)) (Jhv rfl (Jch (Ja5 (i := 2) Jfc.nd) (Jch (Ja5 (i := 3) Jfc.nd) Jf0)))
      (Jao (Jbs (i := 1) Jfc.nd (Jaz Jgj Jgg (Jac 1) (Jaz Jeb Jc1 (Jac 3) (Jac 2))))) PassesOwn.never)
      (Jao (Ja8 (Jac 1)))))
set_option maxHeartbeats 4000000 in
theorem Jvh {f:Addr} {fd:FuncData} (F:Fun K "holds" "holds" Jh2 f fd) (B:Blt mg) (Bz:mg "zip" = none):FnOk P w K mg base CX0 1 f fd ["box","spot"] (spP K Jf3 2) :=
  fnP F Ju2 fun cdv A outer s H E hr =>
    (Jao (Ja8 (Jat (Ji5 rfl) Jkf rfl (B.is "all") Joh (Jaa (Jcl rfl (Jcn.of (sc := Jai Jh2) (N := ["box","spot"]) (N2 := ["stretch","number"]) (k := 2) (caps := []) (by decide +kernel)) rfl (Jw5 rfl Bz (Jaa (Jac 0) (Jaa (Jac 1) Jaf))) ⟨fun _ _ _ _ _ => ⟨(Jhv rfl (Jch (Ja5 (i := 0) (show List.Nodup (["stretch","number"]:List Str) by decide +kernel)) (Jch (Ja5 (i := 1) (show List.Nodup (["stretch","number"]:List Str) by decide +kernel)) Jf0))),Jcq,(Jqx Jvd Jp9 Jrj Jlg (Jbl Jas Jar (Jac 0) Jag (fun _ _ => rfl)) (Jac 1) (Jbl Jas Jar (Jac 0) Jag (fun _ _ => rfl)))⟩⟩) Jaf))))
set_option maxHeartbeats 4000000 in
theorem Jrm {f:Addr} {fd:FuncData} (F:Fun K "size_of" "size_of" Jf5 f fd) (B:Blt mg) (c_need_heap:CalP P w K mg base "need_heap" 5 Jbm) (c_box_size:CalP P w K mg base "box_size" 1 Jd8) (c_numbered_box:CalP P w K mg base "numbered_box" 2 Jbx):FnOk P w K mg base CX0 6 f fd ["heap","number"] (spP K Jba 2) :=
  fnP F Jrg fun cdv A outer s H E hr =>
    (Jak (Jis (Jaq c_need_heap hr (by omega) rfl (Jaa (Jac 0) Jaf)))
      (Jao (Ja8 (Jaq c_box_size hr (by omega) rfl (Jaa (Jaq c_numbered_box hr (by omega) rfl (Jaa (Jac 0) (Jaa (Jac 1) Jaf))) Jaf)))))
set_option maxHeartbeats 4000000 in
theorem Jo9 {f:Addr} {fd:FuncData} (F:Fun K "boxes_at" "boxes_at" Jet f fd) (B:Blt mg) (Be:mg "enumerate" = none) (c_need_heap:CalP P w K mg base "need_heap" 5 Jbm) (c_need_spot:CalP P w K mg base "need_spot" 2 Jdb) (c_holds:CalP P w K mg base "holds" 1 Jf3):FnOk P w K mg base CX0 6 f fd ["heap","spot"] (spP K Jay 2) :=
  fnP F Joy fun cdv A outer s H E hr =>
    (Jak (Jis (Jaq c_need_heap hr (by omega) rfl (Jaa (Jac 0) Jaf)))
      (Jak (Jis (Jaq c_need_spot hr (by omega) rfl (Jaa (Jac 0) (Jaa (Jac 1) Jaf))))
      (Jao (Ja8 (Jcl rfl (Jcn.of (sc := Jai Jet) (N := ["heap","spot"]) (N2 := ["number","box","spot"]) (k := 2) (caps := [1]) (by decide +kernel)) rfl (Jzf rfl Be (Jaa (Jbl Jas Jar (Jac 0) Jag (fun _ _ => rfl)) Jaf)) ⟨fun _ _ _ _ _ => ⟨(Jhv rfl (Jch (Ja5 (i := 0) (show List.Nodup (["number","box","spot"]:List Str) by decide +kernel)) (Jch (Ja5 (i := 1) (show List.Nodup (["number","box","spot"]:List Str) by decide +kernel)) Jf0))),(Jze (Jel (Jaq c_holds hr (by omega) rfl (Jaa (Jac 1) (Jaa (Jac 2) Jaf))))),(Jac 0)⟩⟩)))))
set_option maxHeartbeats 4000000 in
theorem Jnk {f:Addr} {fd:FuncData} (F:Fun K "how_often" "how_often" Jer f fd) (B:Blt mg) (c_boxes_at:CalP P w K mg base "boxes_at" 6 Jay):FnOk P w K mg base CX0 7 f fd ["heap","spot"] (spP K Jcj 2) :=
  fnP F Jm9 fun cdv A outer s H E hr =>
    (Jao (Ja8 (Jat Jbk Jdx rfl (B.is "len") Je4 (Jaa (Jaq c_boxes_at hr (by omega) rfl (Jaa (Jac 0) (Jaa (Jac 1) Jaf))) Jaf))))
set_option maxHeartbeats 4000000 in
theorem Jl8 {f:Addr} {fd:FuncData} (F:Fun K "shared_box" "shared_box" Jc9 f fd) (B:Blt mg) (Bz:mg "zip" = none) (c_is_stretch:CalP P w K mg base "is_stretch" 2 Jcb):FnOk P w K mg base CX0 3 f fd ["one","other"] (spP K Jcy 2) :=
  fnP F Jin fun cdv A outer s H E hr =>
    (Jak (Jie (i := 2) rfl Jin.nd (Jcn.of (sc := Jai Jc9) (N := ["one","other","shared"]) (N2 := ["mine","yours"]) (k := 2) (caps := []) (by decide +kernel)) rfl (Jw5 rfl Bz (Jaa (Jac 0) (Jaa (Jac 1) Jaf))) ⟨fun _ _ _ _ _ => ⟨(Jhv rfl (Jch (Ja5 (i := 0) (show List.Nodup (["mine","yours"]:List Str) by decide +kernel)) (Jch (Ja5 (i := 1) (show List.Nodup (["mine","yours"]:List Str) by decide +kernel)) Jf0))),Jcq,(Jed (Jaa (Jat (Jga rfl) Jhi rfl (B.is "max") Jjx (Jaa (Jbl Jas Jar (Jac 0) Jag (fun _ _ => rfl)) (Jaa (Jbl Jas Jar (Jac 1) Jag (fun _ _ => rfl)) Jaf))) (Jaa (Jat (Ji4 rfl) Jj6 rfl (B.is "min") Jog (Jaa (Jbl Jas Jar (Jac 0) Jag (fun _ _ => rfl)) (Jaa (Jbl Jas Jar (Jac 1) Jag (fun _ _ => rfl)) Jaf))) Jaf)) (Jal (Jal Ja7)))⟩⟩)
      (Jak (Jdq (Jel (Jat (Ji5 rfl) Jkf rfl (B.is "all") Joh (Jaa (Jcl rfl (Jcn.of (sc := Jai Jc9) (N := ["one","other","shared"]) (N2 := ["part"]) (k := 1) (caps := []) (by decide +kernel)) rfl (Jdz (Jac 2)) ⟨fun _ _ _ _ _ => ⟨(Ja5 (i := 0) (show List.Nodup (["part"]:List Str) by decide +kernel)),Jcq,(Jaq c_is_stretch hr (by omega) rfl (Jaa (Jac 0) Jaf))⟩⟩) Jaf)))
      (Jao (Ja8 (Jdr Jcc Jdy rfl (B.is "tuple") Jdk (Jaa (Jac 2) Jaf))))
      Jbq)
      (Jao (Ja8 Jtk))))
set_option maxHeartbeats 4000000 in
theorem Jnl {f:Addr} {fd:FuncData} (F:Fun K "common_of" "common_of" Jes f fd) (B:Blt mg) (c_need_heap:CalP P w K mg base "need_heap" 5 Jbm) (c_shared_box:CalP P w K mg base "shared_box" 3 Jcy) (c_numbered_box:CalP P w K mg base "numbered_box" 2 Jbx):FnOk P w K mg base CX0 6 f fd ["heap","one","other"] (spP K Ja1 3) :=
  fnP F Jna fun cdv A outer s H E hr =>
    (Jak (Jis (Jaq c_need_heap hr (by omega) rfl (Jaa (Jac 0) Jaf)))
      (Jao (Ja8 (Jaq c_shared_box hr (by omega) rfl (Jaa (Jaq c_numbered_box hr (by omega) rfl (Jaa (Jac 0) (Jaa (Jac 1) Jaf))) (Jaa (Jaq c_numbered_box hr (by omega) rfl (Jaa (Jac 0) (Jaa (Jac 2) Jaf))) Jaf))))))
set_option maxHeartbeats 4000000 in
theorem Jl7 {f:Addr} {fd:FuncData} (F:Fun K "span_along" "span_along" Jc8 f fd) (B:Blt mg):FnOk P w K mg base CX0 1 f fd ["boxes","way"] (spP K Jdi 2) :=
  fnP F Jl2 fun cdv A outer s H E hr =>
    (Jao (Ja8 (Jed (Jaa (Jat (Jua rfl rfl) Ju0 rfl (B.is "min") Jog (Jaa (Jcl rfl (Jcn.of (sc := Jai Jc8) (N := ["boxes","way"]) (N2 := ["box","way"]) (k := 1) (caps := [1]) (by decide +kernel)) rfl (Jdz (Jac 0)) ⟨fun _ _ _ _ _ => ⟨(Ja5 (i := 0) (show List.Nodup (["box","way"]:List Str) by decide +kernel)),Jcq,(Jbl Jas Jar (Jbl Jas Jar (Jac 0) (Jac 1) (fun _ _ => rfl)) Jag (fun _ _ => rfl))⟩⟩) Jaf)) (Jaa (Jat (Jof rfl rfl) Jp8 rfl (B.is "max") Jjx (Jaa (Jcl rfl (Jcn.of (sc := Jai Jc8) (N := ["boxes","way"]) (N2 := ["box","way"]) (k := 1) (caps := [1]) (by decide +kernel)) rfl (Jdz (Jac 0)) ⟨fun _ _ _ _ _ => ⟨(Ja5 (i := 0) (show List.Nodup (["box","way"]:List Str) by decide +kernel)),Jcq,(Jbl Jas Jar (Jbl Jas Jar (Jac 0) (Jac 1) (fun _ _ => rfl)) Jag (fun _ _ => rfl))⟩⟩) Jaf)) Jaf)) (Jal (Jal Ja7)))))
set_option maxHeartbeats 4000000 in
theorem Jrl {f:Addr} {fd:FuncData} (F:Fun K "span_of" "span_of" Jfd f fd) (B:Blt mg) (c_need_heap:CalP P w K mg base "need_heap" 5 Jbm) (c_span_along:CalP P w K mg base "span_along" 1 Jdi):FnOk P w K mg base CX0 6 f fd ["heap"] (spP K Jcx 1) :=
  fnP F Jrf fun cdv A outer s H E hr =>
    (Jak (Jis (Jaq c_need_heap hr (by omega) rfl (Jaa (Jac 0) Jaf)))
      (Jak (Jdq (Jcf (Jg7 hr) Jg6 (Jat Jbk Jdx rfl (B.is "len") Je4 (Jaa (Jbl Jas Jar (Jac 0) Jag (fun _ _ => rfl)) Jaf)) Jag (Jb8 _))
      (Jao (Ja8 Jtk))
      Jbq)
      (Jao (Ja8 (Jdr Jcc Jdy rfl (B.is "tuple") Jdk (Jaa (Jcl rfl (Jcn.of (sc := Jai Jfd) (N := ["heap"]) (N2 := ["way","heap"]) (k := 1) (caps := [0]) (by decide +kernel)) rfl (Jef rfl (B.is "range") (Jaa (Jbl Jas Jar (Jac 0) Jag (fun _ _ => rfl)) Jaf)) ⟨fun _ _ _ _ _ => ⟨(Ja5 (i := 0) (show List.Nodup (["way","heap"]:List Str) by decide +kernel)),Jcq,(Jaq c_span_along hr (by omega) rfl (Jaa (Jbl Jas Jar (Jac 1) Jag (fun _ _ => rfl)) (Jaa (Jac 0) Jaf)))⟩⟩) Jaf))))))
set_option maxHeartbeats 4000000 in
theorem Jo2 {f:Addr} {fd:FuncData} (F:Fun K "_law_well" "_law_well" Je7 f fd) (B:Blt mg):FnOk P w K mg base CX0 1 f fd ["cell"] (spP K Jdm 1) :=
  fnP F Jow fun cdv A outer s H E hr =>
    (Jak (Jdq (Jcf Jyx Jsg (Jac 0) (Jaz Jfh Jd2 Jag Jag) (Jb8 _))
      (Jao (Ja8 (Jdf (Jaa (Jac 0) (Jaa (Jaz Jkm Jhy (Jac 0) Jag) Jaf)) (Jal (Jal Ja7)))))
      Jbq)
      (Jao (Ja8 (Jdf (Jaa Jag (Jaa (Jaz Jkm Jhy (Jac 0) Jag) Jaf)) (Jal (Jal Ja7))))))
set_option maxHeartbeats 4000000 in
theorem Jo7 {f:Addr} {fd:FuncData} (F:Fun K "_law_draw" "_law_draw" Je8 f fd) (B:Blt mg):FnOk P w K mg base CX0 1 f fd ["well","many"] (spM K Jah 2) :=
  fnM F Jgh fun cdv A outer s H E hr =>
    (Jak (Jdq (Jcf Jvg Jqa (Jbl Jas Jar (Jac 0) Jag (fun _ _ => rfl)) Jag (Jb8 _))
      (Jak (Jbs (i := 2) Jgh.nd (Jaz Jkm Jhy (Jbl Jas Jar (Jac 0) Jag (fun _ _ => rfl)) (Jac 1)))
      (Jak (Jj8 (Jaz Jgk Jh0 (Jbl Jas Jar (Jac 0) Jag (fun _ _ => rfl)) (Jac 1)) (Jac 0) Jag)
      (Jao (Ja8 (Jac 2)))))
      Jbq)
      (Jak (Jbs (i := 3) Jgh.nd (Jaz Jkm Jhy (Jaz Jbi Jbh (Jaz Jgj Jgg (Jbl Jas Jar (Jac 0) Jag (fun _ _ => rfl)) Jag) Jag) Jag))
      (Jak (Jbs (i := 3) Jgh.nd (Jaz Jkm Jhy (Jaz Jgj Jgg (Jac 3) (Jac 3)) Jag))
      (Jak (Jj8 (Jaz Jkm Jhy (Jaz Jbi Jbh (Jaz Jgj Jgg (Jac 3) Jag) Jag) Jag) (Jac 0) Jag)
      (Jao (Ja8 (Jaz Jkm Jhy (Jaz Jgj Jgg (Jaz Jgk Jh0 (Jbl Jas Jar (Jac 0) Jag (fun _ _ => rfl)) Jag) (Jbl Jas Jar (Jdf (Jaa Jag (Jaa Jag Jaf)) (Jal (Jal Ja7))) (Jdr Jub Jyb rfl (B.is "int") Jxp (Jaa (Jnt Jvg Jqa (Jac 1) (Jaz Jfh Jd2 Jag Jag) (Jb8 _)) Jaf)) (fun _ _ => rfl))) (Jac 1))))))))
set_option maxHeartbeats 4000000 in
theorem Jni {f:Addr} {fd:FuncData} (F:Fun K "_law_marks" "_law_marks" Jd5 f fd) (B:Blt mg) (c_law_draw:CalM P w K mg base "_law_draw" 1 Jah):FnOk P w K mg base CX0 2 f fd ["well","many"] (spM K Jb5 2) :=
  fnM F Je0 fun cdv A outer s H E hr =>
    (Jak (Jbs (i := 2) Je0.nd (Jaz Jbi Jbh (Jaz Jeb Jc1 (Ja9 c_law_draw hr (by omega) rfl (Jaa (Jac 0) (Jaa (Jaz Jeb Jc1 (Jaz Jgj Jgg Jag (Jaz Jfh Jd2 Jag Jag)) Jag) Jaf))) (Jaz Jfh Jd2 Jag Jag)) Jag))
      (Jak (Jbs (i := 3) Je0.nd (Ja9 c_law_draw hr (by omega) rfl (Jaa (Jac 0) (Jaa Jag Jaf))))
      (Jak (Jdq (Jcf Jrj Jlg (Jac 3) Jag (Jb8 _))
      (Jao (Ja8 (Jbl Jas Jar (Jdf (Jaa (Jhd rfl (Jaa Jag Jaf) rfl (B.is "list") rfl (B.is "range")) (Jaa (Jhd rfl (Jaa (Jzg Jpy Jou Jag) (Jaa Jag Jaf)) rfl (B.is "list") rfl (B.is "range")) Jaf)) (Jal (Jal Ja7))) (Jac 3) (fun _ _ => rfl))))
      Jbq)
      (Jak (Jdq (Jcf (Jg7 hr) Jg6 (Jac 3) Jag (Jb8 _))
      (Jao (Ja8 (Jhd rfl (Jaa (Jac 2) (Jaa (Jaz Jbi Jbh (Jac 2) Jag) Jaf)) rfl (B.is "list") rfl (B.is "range"))))
      Jbq)
      (Jak (Jie (i := 4) rfl Je0.nd (Jcn.of (sc := Jai Jd5) (N := ["well","many","far","way","some"]) (N2 := ["k","well"]) (k := 1) (caps := [0]) (by decide +kernel)) rfl (Jef rfl (B.is "range") (Jaa (Jaz Jbi Jbh Jag (Jac 1)) Jaf)) ⟨fun _ _ _ _ _ => ⟨(Ja5 (i := 0) (show List.Nodup (["k","well"]:List Str) by decide +kernel)),Jcq,(Jaz Jeb Jc1 (Ja9 c_law_draw hr (by omega) rfl (Jaa (Jac 1) (Jaa (Jaz Jbi Jbh (Jaz Jgj Jgg Jag (Jaz Jfh Jd2 Jag Jag)) Jag) Jaf))) (Jaz Jfh Jd2 Jag Jag))⟩⟩)
      (Jak (Jdq (Jcf (Jg7 hr) Jg6 (Jac 3) Jag (Jb8 _))
      (Jao (Jbs (i := 4) Je0.nd (Jaz Jbi Jbh (Jac 4) (Jdf (Jaa (Jzg Jpy Jou (Jaz Jfh Jd2 Jag Jag)) (Jaa (Jaz Jfh Jd2 Jag Jag) Jaf)) (Jal (Jal Ja7))))))
      Jbq)
      (Jao (Ja8 (Jru rfl (Jaz Jbi Jbh (Jac 4) (Jdf (Jaa (Jac 2) (Jaa (Jaz Jbi Jbh (Jac 2) Jag) Jaf)) (Jal (Jal Ja7)))) rfl (B.is "sorted") rfl (B.is "set"))))))))))
set_option maxHeartbeats 4000000 in
theorem Jk6 {f:Addr} {fd:FuncData} (F:Fun K "_law_stretch" "_law_stretch" Jdt f fd) (B:Blt mg) (c_law_draw:CalM P w K mg base "_law_draw" 1 Jah):FnOk P w K mg base CX0 2 f fd ["well","marks"] (spM K Jb3 2) :=
  fnM F Jhu fun cdv A outer s H E hr =>
    (Jak (Jbs (i := 2) Jhu.nd (Ja9 c_law_draw hr (by omega) rfl (Jaa (Jac 0) (Jaa (Jaz Jeb Jc1 (Jat Jbk Jdx rfl (B.is "len") Je4 (Jaa (Jac 1) Jaf)) Jag) Jaf))))
      (Jao (Ja8 (Jed (Jaa (Jbl Jas Jar (Jac 1) (Jac 2) (fun _ _ => rfl)) (Jaa (Jbl Jas Jar (Jac 1) (Jaz Jbi Jbh (Jaz Jbi Jbh (Jac 2) Jag) (Ja9 c_law_draw hr (by omega) rfl (Jaa (Jac 0) (Jaa (Jaz Jeb Jc1 (Jaz Jeb Jc1 (Jat Jbk Jdx rfl (B.is "len") Je4 (Jaa (Jac 1) Jaf)) Jag) (Jac 2)) Jaf)))) (fun _ _ => rfl)) Jaf)) (Jal (Jal Ja7))))))
set_option maxHeartbeats 4000000 in
theorem Jo4 {f:Addr} {fd:FuncData} (F:Fun K "_law_near" "_law_near" Jeo f fd) (B:Blt mg) (c_law_draw:CalM P w K mg base "_law_draw" 1 Jah) (c_law_stretch:CalM P w K mg base "_law_stretch" 2 Jb3):FnOk P w K mg base CX0 3 f fd ["well","box","marks"] (spM K Jcd 3) :=
  fnM F Jem fun cdv A outer s H E hr =>
    (Jak (Jbs (i := 3) Jem.nd (Ja9 c_law_draw hr (by omega) rfl (Jaa (Jac 0) (Jaa Jag Jaf))))
      (Jak (Jbs (i := 4) Jem.nd (Ja9 c_law_draw hr (by omega) rfl (Jaa (Jac 0) (Jaa (Jat Jbk Jdx rfl (B.is "len") Je4 (Jaa (Jac 1) Jaf)) Jaf))))
      (Jak (Jw4 (Jbl Jas Jar (Jac 1) (Jac 4) (fun _ _ => rfl)) (Jhv rfl (Jch (Ja5 (i := 5) Jem.nd) (Jch (Ja5 (i := 6) Jem.nd) Jf0))))
      (Jak (Jdq (Jcf (Jg7 hr) Jg6 (Jac 3) Jag (Jb8 _))
      (Jao (Ja8 (Jaz Jbi Jbh (Jaz Jbi Jbh (Jeg Jg4 Jg5 (Jac 1) Jfj (Jfi (Jac 4))) (Jed (Jaa (Jed (Jaa (Jac 6) (Jaa (Jaz Jbi Jbh (Jaz Jbi Jbh (Jac 6) Jag) (Ja9 c_law_draw hr (by omega) rfl (Jaa (Jac 0) (Jaa Jag Jaf)))) Jaf)) (Jal (Jal Ja7))) Jaf) (Jal Ja7))) (Jeg Jg4 Jg5 (Jac 1) (Jfi (Jaz Jbi Jbh (Jac 4) Jag)) Jfj))))
      Jbq)
      (Jak (Jdq (Jcf (Jg7 hr) Jg6 (Jac 3) Jag (Jb8 _))
      (Jak (Jbs (i := 7) Jem.nd (Jaz Jbi Jbh (Jac 5) (Ja9 c_law_draw hr (by omega) rfl (Jaa (Jac 0) (Jaa (Jaz Jeb Jc1 (Jac 6) (Jac 5)) Jaf)))))
      (Jao (Ja8 (Jaz Jbi Jbh (Jaz Jbi Jbh (Jeg Jg4 Jg5 (Jac 1) Jfj (Jfi (Jac 4))) (Jed (Jaa (Jed (Jaa (Jac 7) (Jaa (Jac 6) Jaf)) (Jal (Jal Ja7))) Jaf) (Jal Ja7))) (Jeg Jg4 Jg5 (Jac 1) (Jfi (Jaz Jbi Jbh (Jac 4) Jag)) Jfj)))))
      Jbq)
      (Jak (Jdq (Jcf (Jg7 hr) Jg6 (Jac 3) Jag (Jb8 _))
      (Jao (Ja8 (Jaz Jbi Jbh (Jaz Jbi Jbh (Jeg Jg4 Jg5 (Jac 1) Jfj (Jfi (Jac 4))) (Jed (Jaa (Ja9 c_law_stretch hr (by omega) rfl (Jaa (Jac 0) (Jaa (Jbl Jas Jar (Jac 2) (Jac 4) (fun _ _ => rfl)) Jaf))) Jaf) (Jal Ja7))) (Jeg Jg4 Jg5 (Jac 1) (Jfi (Jaz Jbi Jbh (Jac 4) Jag)) Jfj))))
      Jbq)
      (Jak (Jdq (Jcf (Jg7 hr) Jg6 (Jac 3) Jag (Jb8 _))
      (Jao (Ja8 (Jaz Jbi Jbh (Jaz Jbi Jbh (Jeg Jg4 Jg5 (Jac 1) Jfj (Jfi (Jac 4))) (Jed (Jaa (Jed (Jaa (Jaz Jeb Jc1 (Jaz Jeb Jc1 (Jac 5) Jag) (Ja9 c_law_draw hr (by omega) rfl (Jaa (Jac 0) (Jaa Jag Jaf)))) (Jaa (Jac 5) Jaf)) (Jal (Jal Ja7))) Jaf) (Jal Ja7))) (Jeg Jg4 Jg5 (Jac 1) (Jfi (Jaz Jbi Jbh (Jac 4) Jag)) Jfj))))
      Jbq)
      (Jak (Jdq (Jcf (Jg7 hr) Jg6 (Jac 3) Jag (Jb8 _))
      (Jao (Ja8 (Jdr Jcc Jdy rfl (B.is "tuple") Jdk (Jaa (Jcl rfl (Jcn.of (sc := Jai Jeo) (N := ["well","box","marks","way","at","low","high","inner"]) (N2 := ["one"]) (k := 1) (caps := []) (by decide +kernel)) rfl (Jdz (Jac 1)) ⟨fun _ _ _ _ _ => ⟨(Ja5 (i := 0) (show List.Nodup (["one"]:List Str) by decide +kernel)),Jcq,(Jed (Jaa (Jbl Jas Jar (Jac 0) Jag (fun _ _ => rfl)) (Jaa (Jaz Jbi Jbh (Jbl Jas Jar (Jac 0) Jag (fun _ _ => rfl)) Jag) Jaf)) (Jal (Jal Ja7)))⟩⟩) Jaf))))
      Jbq)
      (Jao (Ja8 (Jac 1)))))))))))
set_option maxHeartbeats 4000000 in
theorem Jo5 {f:Addr} {fd:FuncData} (F:Fun K "_law_heap" "_law_heap" Jdu f fd) (B:Blt mg) (c_law_draw:CalM P w K mg base "_law_draw" 1 Jah) (c_law_marks:CalM P w K mg base "_law_marks" 2 Jb5) (c_law_stretch:CalM P w K mg base "_law_stretch" 2 Jb3) (c_law_near:CalM P w K mg base "_law_near" 3 Jcd):FnOk P w K mg base CX0 4 f fd ["well","ways","most"] (spM K Jcw 3) :=
  fnM F Jdo fun cdv A outer s H E hr =>
    (Jak (Jbs (i := 3) Jdo.nd (Jbl Jas Jar (Jdf (Jaa (Ja9 c_law_draw hr (by omega) rfl (Jaa (Jac 0) (Jaa (Jaz Jbi Jbh (Jat (Ji4 rfl) Jj6 rfl (B.is "min") Jog (Jaa (Jac 2) (Jaa Jag Jaf))) Jag) Jaf))) (Jaa (Ja9 c_law_draw hr (by omega) rfl (Jaa (Jac 0) (Jaa (Jaz Jbi Jbh (Jac 2) Jag) Jaf))) (Jaa (Jac 2) Jaf))) (Jal (Jal (Jal Ja7)))) (Ja9 c_law_draw hr (by omega) rfl (Jaa (Jac 0) (Jaa Jag Jaf))) (fun _ _ => rfl)))
      (Jak (Jbs (i := 4) Jdo.nd (Jcl rfl (Jcn.of (sc := Jai Jdu) (N := ["well","ways","most","many","marks","boxes","alike","k","box"]) (N2 := ["way","well","many"]) (k := 1) (caps := [0,3]) (by decide +kernel)) rfl (Jef rfl (B.is "range") (Jaa (Jac 1) Jaf)) ⟨fun _ _ _ _ _ => ⟨(Ja5 (i := 0) (show List.Nodup (["way","well","many"]:List Str) by decide +kernel)),Jcq,(Ja9 c_law_marks hr (by omega) rfl (Jaa (Jac 1) (Jaa (Jac 2) Jaf)))⟩⟩))
      (Jak (Jbs (i := 5) Jdo.nd (Jmi Jaf Ja7))
      (Jak (Jbs (i := 6) Jdo.nd (Ja9 c_law_draw hr (by omega) rfl (Jaa (Jac 0) (Jaa Jag Jaf))))
      (Jak (Jir rfl (Jef rfl (B.is "range") (Jaa (Jac 3) Jaf)) (Ja5 (i := 7) Jdo.nd)
      (Jak (Jbs (i := 8) Jdo.nd (Jdr Jcc Jdy rfl (B.is "tuple") Jdk (Jaa (Jcl rfl (Jcn.of (sc := Jai Jdu) (N := ["well","ways","most","many","marks","boxes","alike","k","box"]) (N2 := ["way","well","marks"]) (k := 1) (caps := [0,4]) (by decide +kernel)) rfl (Jef rfl (B.is "range") (Jaa (Jac 1) Jaf)) ⟨fun _ _ _ _ _ => ⟨(Ja5 (i := 0) (show List.Nodup (["way","well","marks"]:List Str) by decide +kernel)),Jcq,(Ja9 c_law_stretch hr (by omega) rfl (Jaa (Jac 1) (Jaa (Jbl Jas Jar (Jac 2) (Jac 0) (fun _ _ => rfl)) Jaf)))⟩⟩) Jaf)))
      (Jak (Jdq (Jjc (Jw3 (Jcf (Jf8 hr) Jf2 (Jac 5) (Jdf Jaf Ja7) (Jb8 _)) (Jtj (Jcf Jrj Jlg (Ja9 c_law_draw hr (by omega) rfl (Jaa (Jac 0) (Jaa Jag Jaf))) (Jac 6) (Jb8 _)))))
      (Jao (Jbs (i := 8) Jdo.nd (Ja9 c_law_near hr (by omega) rfl (Jaa (Jac 0) (Jaa (Jbl Jas Jar (Jac 5) (Ja9 c_law_draw hr (by omega) rfl (Jaa (Jac 0) (Jaa (Jat Jbk Jdx rfl (B.is "len") Je4 (Jaa (Jac 5) Jaf)) Jaf))) (fun _ _ => rfl)) (Jaa (Jac 4) Jaf))))))
      Jbq)
      (Jao (Jdq (Jcf Jvd Jp9 (Jat (Jof rfl rfl) Jp8 rfl (B.is "max") Jjx (Jaa (Jcl rfl (Jcn.of (sc := Jai Jdu) (N := ["well","ways","most","many","marks","boxes","alike","k","box"]) (N2 := ["low","high"]) (k := 2) (caps := []) (by decide +kernel)) rfl (Jdz (Jac 8)) ⟨fun _ _ _ _ _ => ⟨(Jhv rfl (Jch (Ja5 (i := 0) (show List.Nodup (["low","high"]:List Str) by decide +kernel)) (Jch (Ja5 (i := 1) (show List.Nodup (["low","high"]:List Str) by decide +kernel)) Jf0))),Jcq,(Jat (Jga rfl) Jhi rfl (B.is "max") Jjx (Jaa (Jat Jq8 Jsh rfl (B.is "abs") Jxq (Jaa (Jac 0) Jaf)) (Jaa (Jat Jq8 Jsh rfl (B.is "abs") Jxq (Jaa (Jac 1) Jaf)) Jaf)))⟩⟩) Jaf)) (Jaz Jfh Jd2 Jag Jag) (Jb8 _))
      (Jao (Jis (Jmh PySem.F.plainAttrs_list PySem.F.slot_list_append PySem.F.type_list_append Jiq Jil (Jac 5) (Jaa (Jac 8) Jaf))))
      Jbq)))) PassesOwn.never)
      (Jao (Ja8 (Jed (Jaa (Jac 1) (Jaa (Jac 5) Jaf)) (Jal (Jal Ja7))))))))))
set_option maxHeartbeats 4000000 in
theorem Jj0 {f:Addr} {fd:FuncData} (F:Fun K "_law_some_heap" "_law_some_heap" Jc4 f fd) (B:Blt mg) (c_law_draw:CalM P w K mg base "_law_draw" 1 Jah) (c_law_heap:CalM P w K mg base "_law_heap" 4 Jcw):FnOk P w K mg base CX0 5 f fd ["well"] (spM K Jbb 1) :=
  fnM F Jgx fun cdv A outer s H E hr =>
    (Jak (Jbs (i := 1) Jgx.nd (Jaz Jbi Jbh Jag (Ja9 c_law_draw hr (by omega) rfl (Jaa (Jac 0) (Jaa Jag Jaf)))))
      (Jao (Ja8 (Ja9 c_law_heap hr (by omega) rfl (Jaa (Jac 0) (Jaa (Jac 1) (Jaa (Jbl Jas Jar (Jdf (Jaa Jag (Jaa Jag (Jaa Jag (Jaa Jag Jaf)))) (Jal (Jal (Jal (Jal Ja7))))) (Jac 1) (fun _ _ => rfl)) Jaf)))))))
set_option maxHeartbeats 4000000 in
theorem Jnj {f:Addr} {fd:FuncData} (F:Fun K "_law_holds" "_law_holds" Jep f fd) (B:Blt mg):FnOk P w K mg base CX0 1 f fd ["box","spot"] (spP K Jci 2) :=
  fnP F Jjp fun cdv A outer s H E hr =>
    (Jak (Jir rfl (Jef rfl (B.is "range") (Jaa (Jat Jbk Jdx rfl (B.is "len") Je4 (Jaa (Jac 0) Jaf)) Jaf)) (Ja5 (i := 2) Jjp.nd)
      (Jao (Jdq (Jjc (Jid (Jcf Jrj Jlg (Jbl Jas Jar (Jac 1) (Jac 2) (fun _ _ => rfl)) (Jbl Jas Jar (Jbl Jas Jar (Jac 0) (Jac 2) (fun _ _ => rfl)) Jag (fun _ _ => rfl)) (Jb8 _)) (Jhc (Jcf Jyx Jsg (Jbl Jas Jar (Jac 1) (Jac 2) (fun _ _ => rfl)) (Jbl Jas Jar (Jbl Jas Jar (Jac 0) (Jac 2) (fun _ _ => rfl)) Jag (fun _ _ => rfl)) (Jb8 _)))))
      (Jao (Ja8 Jhr))
      Jbq)) PassesOwn.never)
      (Jao (Ja8 Jhr)))
set_option maxHeartbeats 4000000 in
theorem Jo3 {f:Addr} {fd:FuncData} (F:Fun K "_law_spot" "_law_spot" Jd9 f fd) (B:Blt mg) (c_law_draw:CalM P w K mg base "_law_draw" 1 Jah):FnOk P w K mg base CX0 2 f fd ["well","heap"] (spM K Jcv 2) :=
  fnM F Jd3 fun cdv A outer s H E hr =>
    (Jak (Jw4 (Jac 1) (Jhv rfl (Jch (Ja5 (i := 2) Jd3.nd) (Jch (Ja5 (i := 3) Jd3.nd) Jf0))))
      (Jak (Jdq (Jjc (Jid (Jcf (Jg7 hr) Jg6 (Jac 3) (Jdf Jaf Ja7) (Jb8 _)) (Jhc (Jcf (Jg7 hr) Jg6 (Ja9 c_law_draw hr (by omega) rfl (Jaa (Jac 0) (Jaa Jag Jaf))) Jag (Jb8 _)))))
      (Jao (Ja8 (Jdr Jcc Jdy rfl (B.is "tuple") Jdk (Jaa (Jcl rfl (Jcn.of (sc := Jai Jd9) (N := ["well","heap","ways","boxes","box","found","low","high"]) (N2 := ["way","well"]) (k := 1) (caps := [0]) (by decide +kernel)) rfl (Jef rfl (B.is "range") (Jaa (Jac 2) Jaf)) ⟨fun _ _ _ _ _ => ⟨(Ja5 (i := 0) (show List.Nodup (["way","well"]:List Str) by decide +kernel)),Jcq,(Jaz Jeb Jc1 (Ja9 c_law_draw hr (by omega) rfl (Jaa (Jac 1) (Jaa (Jaz Jbi Jbh (Jaz Jgj Jgg Jag (Jaz Jfh Jd2 Jag Jag)) Jag) Jaf))) (Jaz Jfh Jd2 Jag Jag))⟩⟩) Jaf))))
      Jbq)
      (Jak (Jbs (i := 4) Jd3.nd (Jbl Jas Jar (Jac 3) (Ja9 c_law_draw hr (by omega) rfl (Jaa (Jac 0) (Jaa (Jat Jbk Jdx rfl (B.is "len") Je4 (Jaa (Jac 3) Jaf)) Jaf))) (fun _ _ => rfl)))
      (Jak (Jbs (i := 5) Jd3.nd (Jmi Jaf Ja7))
      (Jak (Jir rfl (Jdz (Jac 4)) (Jhv rfl (Jch (Ja5 (i := 6) Jd3.nd) (Jch (Ja5 (i := 7) Jd3.nd) Jf0)))
      (Jao (Jis (Jmh PySem.F.plainAttrs_list PySem.F.slot_list_append PySem.F.type_list_append Jiq Jil (Jac 5) (Jaa (Jbl Jas Jar (Jdf (Jaa (Jac 6) (Jaa (Jaz Jeb Jc1 (Jac 7) Jag) (Jaa (Jac 7) (Jaa (Jaz Jeb Jc1 (Jac 6) Jag) (Jaa (Jaz Jgk Jh0 (Jaz Jbi Jbh (Jac 6) (Jac 7)) Jag) (Jaa (Jac 6) Jaf)))))) (Jal (Jal (Jal (Jal (Jal (Jal Ja7))))))) (Ja9 c_law_draw hr (by omega) rfl (Jaa (Jac 0) (Jaa Jag Jaf))) (fun _ _ => rfl)) Jaf)))) PassesOwn.never)
      (Jao (Ja8 (Jdr Jcc Jdy rfl (B.is "tuple") Jdk (Jaa (Jcl rfl (Jcn.of (sc := Jai Jd9) (N := ["well","heap","ways","boxes","box","found","low","high"]) (N2 := ["one"]) (k := 1) (caps := []) (by decide +kernel)) rfl (Jdz (Jac 5)) ⟨fun _ _ _ _ _ => ⟨(Ja5 (i := 0) (show List.Nodup (["one"]:List Str) by decide +kernel)),Jcq,(Jat (Jga rfl) Jhi rfl (B.is "max") Jjx (Jaa (Jzg Jpy Jou (Jaz Jfh Jd2 Jag Jag)) (Jaa (Jat (Ji4 rfl) Jj6 rfl (B.is "min") Jog (Jaa (Jaz Jfh Jd2 Jag Jag) (Jaa (Jac 0) Jaf))) Jaf)))⟩⟩) Jaf)))))))))
set_option maxHeartbeats 4000000 in
theorem Jo6 {f:Addr} {fd:FuncData} (F:Fun K "_law_half" "_law_half" Jeq f fd) (B:Blt mg):FnOk P w K mg base CX0 1 f fd ["heap"] (spP K Jdn 1) :=
  fnP F Jh1 fun cdv A outer s H E hr =>
    (Jak (Jbs (i := 1) Jh1.nd (Jmi Jaf Ja7))
      (Jak (Jir rfl (Jdz (Jbl Jas Jar (Jac 0) Jag (fun _ _ => rfl))) (Ja5 (i := 2) Jh1.nd)
      (Jao (Jis (Jmh PySem.F.plainAttrs_list PySem.F.slot_list_append PySem.F.type_list_append Jiq Jil (Jac 1) (Jaa (Jdr Jcc Jdy rfl (B.is "tuple") Jdk (Jaa (Jcl rfl (Jcn.of (sc := Jai Jeq) (N := ["heap","found","box"]) (N2 := ["low","high"]) (k := 2) (caps := []) (by decide +kernel)) rfl (Jdz (Jac 2)) ⟨fun _ _ _ _ _ => ⟨(Jhv rfl (Jch (Ja5 (i := 0) (show List.Nodup (["low","high"]:List Str) by decide +kernel)) (Jch (Ja5 (i := 1) (show List.Nodup (["low","high"]:List Str) by decide +kernel)) Jf0))),Jcq,(Jed (Jaa (Jaz Jgk Jh0 (Jac 0) Jag) (Jaa (Jat (Jga rfl) Jhi rfl (B.is "max") Jjx (Jaa (Jaz Jbi Jbh (Jaz Jgk Jh0 (Jac 0) Jag) Jag) (Jaa (Jaz Jgk Jh0 (Jac 1) Jag) Jaf))) Jaf)) (Jal (Jal Ja7)))⟩⟩) Jaf)) Jaf)))) PassesOwn.never)
      (Jao (Ja8 (Jed (Jaa (Jbl Jas Jar (Jac 0) Jag (fun _ _ => rfl)) (Jaa (Jac 1) Jaf)) (Jal (Jal Ja7)))))))
set_option maxHeartbeats 4000000 in
theorem Jjz {f:Addr} {fd:FuncData} (F:Fun K "_law_two_right" "_law_two_right" Jc3 f fd) (B:Blt mg) (c_common_of:CalP P w K mg base "common_of" 6 Ja1) (c_boxes_at:CalP P w K mg base "boxes_at" 6 Jay) (c_is_box:CalP P w K mg base "is_box" 3 Jc2) (c_law_holds:CalP P w K mg base "_law_holds" 1 Jci) (c_size_of:CalP P w K mg base "size_of" 6 Jba):FnOk P w K mg base CX0 7 f fd ["heap","one","other","spot"] (spP K Jb0 4) :=
  fnP F Jdh fun cdv A outer s H E hr =>
    (Jak (Jbs (i := 4) Jdh.nd (Jaq c_common_of hr (by omega) rfl (Jaa (Jac 0) (Jaa (Jac 1) (Jaa (Jac 2) Jaf)))))
      (Jak (Jdq (Jcf (Jf8 hr) Jf2 (Jac 4) (Jaq c_common_of hr (by omega) rfl (Jaa (Jac 0) (Jaa (Jac 2) (Jaa (Jac 1) Jaf)))) (Jb8 _))
      (Jao (Ja8 Jhr))
      Jbq)
      (Jak (Jdq (Jcf (Jf8 hr) Jf2 (Jaq c_common_of hr (by omega) rfl (Jaa (Jac 0) (Jaa (Jac 1) (Jaa (Jac 1) Jaf)))) (Jbl Jas Jar (Jbl Jas Jar (Jac 0) Jag (fun _ _ => rfl)) (Jac 1) (fun _ _ => rfl)) (Jb8 _))
      (Jao (Ja8 Jhr))
      Jbq)
      (Jak (Jbs (i := 5) Jdh.nd (Jaq c_boxes_at hr (by omega) rfl (Jaa (Jac 0) (Jaa (Jac 3) Jaf))))
      (Jak (Jbs (i := 6) Jdh.nd (Jnu (Jnt Jne Jwx (Jac 1) (Jac 5) (by with_unfolding_all rfl)) (Jqv (Jnt Jne Jwx (Jac 2) (Jac 5) (by with_unfolding_all rfl)))))
      (Jak (Jdq (Jcf JBj JAn (Jac 4) Jtk (Jb8 _))
      (Jao (Ja8 (Jw6 (Jac 6))))
      Jbq)
      (Jak (Jdq (Jjc (Jid (Jfx (Jel (Jaq c_is_box hr (by omega) rfl (Jaa (Jbl Jas Jar (Jac 0) Jag (fun _ _ => rfl)) (Jaa (Jac 4) Jaf))))) (Jhc (Jcf (Jf8 hr) Jf2 (Jac 6) (Jaq c_law_holds hr (by omega) rfl (Jaa (Jac 4) (Jaa (Jac 3) Jaf))) (Jb8 _)))))
      (Jao (Ja8 Jhr))
      Jbq)
      (Jak (Jbs (i := 7) Jdh.nd (Jaq c_size_of hr (by omega) rfl (Jaa (Jed (Jaa (Jbl Jas Jar (Jac 0) Jag (fun _ _ => rfl)) (Jaa (Jdf (Jaa (Jac 4) Jaf) (Jal Ja7)) Jaf)) (Jal (Jal Ja7))) (Jaa Jag Jaf))))
      (Jao (Ja8 (Jqx Jvd Jp9 Jvd Jp9 Jag (Jac 7) (Jat (Ji4 rfl) Jj6 rfl (B.is "min") Jog (Jaa (Jaq c_size_of hr (by omega) rfl (Jaa (Jac 0) (Jaa (Jac 1) Jaf))) (Jaa (Jaq c_size_of hr (by omega) rfl (Jaa (Jac 0) (Jaa (Jac 2) Jaf))) Jaf))))))))))))))
set_option maxHeartbeats 4000000 in
theorem Jnh {f:Addr} {fd:FuncData} (F:Fun K "_law_moved" "_law_moved" Jdp f fd) (B:Blt mg):FnOk P w K mg base CX0 1 f fd ["heap","by","mirrored","ways"] (spP K Jdc 4) :=
  fnP F Jfr fun cdv A outer s H E hr =>
    (Jak (Jbs (i := 4) Jfr.nd (Jmi Jaf Ja7))
      (Jak (Jir rfl (Jdz (Jbl Jas Jar (Jac 0) Jag (fun _ _ => rfl))) (Ja5 (i := 5) Jfr.nd)
      (Jak (Jbs (i := 6) Jfr.nd (Jqw rfl (Jcn.of (sc := Jai Jdp) (N := ["heap","by","mirrored","ways","found","box","moved"]) (N2 := ["low","high","by"]) (k := 2) (caps := [1]) (by decide +kernel)) rfl (Jdz (Jac 5)) ⟨fun _ _ _ _ _ => ⟨(Jhv rfl (Jch (Ja5 (i := 0) (show List.Nodup (["low","high","by"]:List Str) by decide +kernel)) (Jch (Ja5 (i := 1) (show List.Nodup (["low","high","by"]:List Str) by decide +kernel)) Jf0))),Jcq,(Jed (Jaa (Jaz Jbi Jbh (Jac 0) (Jac 2)) (Jaa (Jaz Jbi Jbh (Jac 1) (Jac 2)) Jaf)) (Jal (Jal Ja7)))⟩⟩))
      (Jak (Jdq (Jel (Jac 2))
      (Jao (Jj8 (Jed (Jaa (Jaz Jeb Jc1 Jag (Jbl Jas Jar (Jbl Jas Jar (Jac 6) Jag (fun _ _ => rfl)) Jag (fun _ _ => rfl))) (Jaa (Jaz Jeb Jc1 Jag (Jbl Jas Jar (Jbl Jas Jar (Jac 6) Jag (fun _ _ => rfl)) Jag (fun _ _ => rfl))) Jaf)) (Jal (Jal Ja7))) (Jac 6) Jag))
      Jbq)
      (Jao (Jis (Jmh PySem.F.plainAttrs_list PySem.F.slot_list_append PySem.F.type_list_append Jiq Jil (Jac 4) (Jaa (Jdr Jcc Jdy rfl (B.is "tuple") Jdk (Jaa (Jcl rfl (Jcn.of (sc := Jai Jdp) (N := ["heap","by","mirrored","ways","found","box","moved"]) (N2 := ["way","moved"]) (k := 1) (caps := [6]) (by decide +kernel)) rfl (Jdz (Jac 3)) ⟨fun _ _ _ _ _ => ⟨(Ja5 (i := 0) (show List.Nodup (["way","moved"]:List Str) by decide +kernel)),Jcq,(Jbl Jas Jar (Jac 1) (Jac 0) (fun _ _ => rfl))⟩⟩) Jaf)) Jaf)))))) PassesOwn.never)
      (Jao (Ja8 (Jed (Jaa (Jbl Jas Jar (Jac 0) Jag (fun _ _ => rfl)) (Jaa (Jac 4) Jaf)) (Jal (Jal Ja7)))))))
set_option maxHeartbeats 4000000 in
theorem Jjb {f:Addr} {fd:FuncData} (F:Fun K "_law_spot_moved" "_law_spot_moved" Jb7 f fd) (B:Blt mg):FnOk P w K mg base CX0 1 f fd ["spot","by","mirrored","ways"] (spP K Jb4 4) :=
  fnP F Jf4 fun cdv A outer s H E hr =>
    (Jak (Jbs (i := 4) Jf4.nd (Jqw rfl (Jcn.of (sc := Jai Jb7) (N := ["spot","by","mirrored","ways","found"]) (N2 := ["one","by"]) (k := 1) (caps := [1]) (by decide +kernel)) rfl (Jdz (Jac 0)) ⟨fun _ _ _ _ _ => ⟨(Ja5 (i := 0) (show List.Nodup (["one","by"]:List Str) by decide +kernel)),Jcq,(Jaz Jbi Jbh (Jac 0) (Jac 1))⟩⟩))
      (Jak (Jdq (Jel (Jac 2))
      (Jao (Jj8 (Jaz Jeb Jc1 Jag (Jbl Jas Jar (Jac 4) Jag (fun _ _ => rfl))) (Jac 4) Jag))
      Jbq)
      (Jao (Ja8 (Jdr Jcc Jdy rfl (B.is "tuple") Jdk (Jaa (Jcl rfl (Jcn.of (sc := Jai Jb7) (N := ["spot","by","mirrored","ways","found"]) (N2 := ["way","found"]) (k := 1) (caps := [4]) (by decide +kernel)) rfl (Jdz (Jac 3)) ⟨fun _ _ _ _ _ => ⟨(Ja5 (i := 0) (show List.Nodup (["way","found"]:List Str) by decide +kernel)),Jcq,(Jbl Jas Jar (Jac 1) (Jac 0) (fun _ _ => rfl))⟩⟩) Jaf))))))
set_option maxHeartbeats 4000000 in
theorem JBn {f:Addr} {fd:FuncData} (F:Fun K "law" "law" Jki f fd) (B:Blt mg) (c_law_well:CalP P w K mg base "_law_well" 1 Jdm) (c_law_half:CalP P w K mg base "_law_half" 1 Jdn) (c_law_some_heap:CalM P w K mg base "_law_some_heap" 5 Jbb) (c_law_draw:CalM P w K mg base "_law_draw" 1 Jah) (c_law_moved:CalP P w K mg base "_law_moved" 1 Jdc) (c_is_heap:CalP P w K mg base "is_heap" 4 Jbz) (c_law_spot:CalM P w K mg base "_law_spot" 2 Jcv) (c_boxes_at:CalP P w K mg base "boxes_at" 6 Jay) (c_law_spot_moved:CalP P w K mg base "_law_spot_moved" 1 Jb4) (c_how_often:CalP P w K mg base "how_often" 7 Jcj) (c_law_two_right:CalP P w K mg base "_law_two_right" 7 Jb0) (c_common_of:CalP P w K mg base "common_of" 6 Ja1) (c_span_of:CalP P w K mg base "span_of" 6 Jcx) (c_size_of:CalP P w K mg base "size_of" 6 Jba):FnOk P w K mg base CX0 8 f fd ["script"] (spP K Jov 1) :=
  fnP F Jee fun cdv A outer s H E hr =>
    (Jak (Jir rfl (Jdz (Jaz Jbi Jbh (Jdf (Jaa Jag (Jaa Jag Jaf)) (Jal (Jal Ja7))) (Jeg Jg4 Jg5 (Jac 0) Jfj (Jfi Jag)))) (Ja5 (i := 1) Jee.nd)
      (Jak (Jbs (i := 2) Jee.nd (Jvy c_law_well hr (by omega) rfl (Jaa (Jac 1) Jaf)))
      (Jak (Jbs (i := 3) Jee.nd (Jaq c_law_half hr (by omega) rfl (Jaa (Ja9 c_law_some_heap hr (by omega) rfl (Jaa (Jac 2) Jaf)) Jaf)))
      (Jak (Jbs (i := 4) Jee.nd (Jat Jbk Jdx rfl (B.is "len") Je4 (Jaa (Jbl Jas Jar (Jac 3) Jag (fun _ _ => rfl)) Jaf)))
      (Jak (Jbs (i := 5) Jee.nd (Jaz Jeb Jc1 (Ja9 c_law_draw hr (by omega) rfl (Jaa (Jac 2) (Jaa (Jaz Jgj Jgg Jag (Jaz Jfh Jd2 Jag Jag)) Jaf))) (Jaz Jfh Jd2 Jag Jag)))
      (Jak (Jbs (i := 6) Jee.nd (Jnt (Jg7 hr) Jg6 (Ja9 c_law_draw hr (by omega) rfl (Jaa (Jac 2) (Jaa Jag Jaf))) Jag (Jb8 _)))
      (Jak (Jbs (i := 7) Jee.nd (Jbl Jas Jar (Jdf (Jaa (Jdf (Jaa Jag Jaf) (Jal Ja7)) (Jaa (Jdf (Jaa Jag (Jaa Jag Jaf)) (Jal (Jal Ja7))) (Jaa (Jdf (Jaa Jag (Jaa Jag (Jaa Jag Jaf))) (Jal (Jal (Jal Ja7)))) Jaf))) (Jal (Jal (Jal Ja7)))) (Jaz Jeb Jc1 (Jbl Jas Jar (Jac 3) Jag (fun _ _ => rfl)) Jag) (fun _ _ => rfl)))
      (Jak (Jbs (i := 7) Jee.nd (Jbl Jas Jar (Jdf (Jaa (Jac 7) (Jaa (Jpi (Jac 7)) (Jaa (Jaz Jbi Jbh (Jeg Jg4 Jg5 (Jac 7) (Jfi Jag) Jfj) (Jeg Jg4 Jg5 (Jac 7) Jfj (Jfi Jag))) Jaf))) (Jal (Jal (Jal Ja7)))) (Ja9 c_law_draw hr (by omega) rfl (Jaa (Jac 2) (Jaa Jag Jaf))) (fun _ _ => rfl)))
      (Jak (Jbs (i := 8) Jee.nd (Jaq c_law_moved hr (by omega) rfl (Jaa (Jac 3) (Jaa (Jac 5) (Jaa (Jac 6) (Jaa (Jac 7) Jaf))))))
      (Jak (Jdq (Jjc (Jid (Jfx (Jel (Jaq c_is_heap hr (by omega) rfl (Jaa (Jac 3) Jaf)))) (Jhc (Jfx (Jel (Jaq c_is_heap hr (by omega) rfl (Jaa (Jac 8) Jaf)))))))
      (Jao (Ja8 Jhr))
      Jbq)
      (Jak (Jir rfl (Jef rfl (B.is "range") (Jaa Jag Jaf)) (Ja5 (i := 9) Jee.nd)
      (Jak (Jbs (i := 10) Jee.nd (Jdr Jcc Jdy rfl (B.is "tuple") Jdk (Jaa (Jcl rfl (Jcn.of (sc := Jai Jki) (N := ["script","cell","well","heap","many","by","mirrored","ways","other","turn","spot","at","moved","due","one","two","number","both"]) (N2 := ["one"]) (k := 1) (caps := []) (by decide +kernel)) rfl (Jdz (Ja9 c_law_spot hr (by omega) rfl (Jaa (Jac 2) (Jaa (Jac 3) Jaf)))) ⟨fun _ _ _ _ _ => ⟨(Ja5 (i := 0) (show List.Nodup (["one"]:List Str) by decide +kernel)),Jcq,(Jaz Jgk Jh0 (Jac 0) Jag)⟩⟩) Jaf)))
      (Jak (Jbs (i := 11) Jee.nd (Jaq c_boxes_at hr (by omega) rfl (Jaa (Jac 3) (Jaa (Jac 10) Jaf))))
      (Jak (Jbs (i := 12) Jee.nd (Jaq c_law_spot_moved hr (by omega) rfl (Jaa (Jac 10) (Jaa (Jac 5) (Jaa (Jac 6) (Jaa (Jac 7) Jaf))))))
      (Jak (Jdq (Jjc (Jid (Jcf (Jf8 hr) Jf2 (Jaq c_how_often hr (by omega) rfl (Jaa (Jac 3) (Jaa (Jac 10) Jaf))) (Jat Jbk Jdx rfl (B.is "len") Je4 (Jaa (Jac 11) Jaf)) (Jb8 _)) (Jhc (Jcf (Jf8 hr) Jf2 (Jaq c_boxes_at hr (by omega) rfl (Jaa (Jac 8) (Jaa (Jac 12) Jaf))) (Jac 11) (Jb8 _)))))
      (Jao (Ja8 Jhr))
      Jbq)
      (Jak (Jie (i := 13) rfl Jee.nd (Jcn.of (sc := Jai Jki) (N := ["script","cell","well","heap","many","by","mirrored","ways","other","turn","spot","at","moved","due","one","two","number","both"]) (N2 := ["number","many"]) (k := 1) (caps := [4]) (by decide +kernel)) rfl (Jdz (Jpi (Jac 11))) ⟨fun _ _ _ _ _ => ⟨(Ja5 (i := 0) (show List.Nodup (["number","many"]:List Str) by decide +kernel)),Jcq,(Jaz Jeb Jc1 (Jaz Jeb Jc1 (Jac 1) Jag) (Jac 0))⟩⟩)
      (Jak (Jdq (Jcf (Jf8 hr) Jf2 (Jaq c_boxes_at hr (by omega) rfl (Jaa (Jed (Jaa (Jbl Jas Jar (Jac 3) Jag (fun _ _ => rfl)) (Jaa (Jpi (Jbl Jas Jar (Jac 3) Jag (fun _ _ => rfl))) Jaf)) (Jal (Jal Ja7))) (Jaa (Jac 10) Jaf))) (Jac 13) (Jb8 _))
      (Jao (Ja8 Jhr))
      Jbq)
      (Jak (Jbs (i := 14) Jee.nd (Ja9 c_law_draw hr (by omega) rfl (Jaa (Jac 2) (Jaa (Jat (Jga rfl) Jhi rfl (B.is "max") Jjx (Jaa Jag (Jaa (Jac 4) Jaf))) Jaf))))
      (Jak (Jbs (i := 15) Jee.nd (Ja9 c_law_draw hr (by omega) rfl (Jaa (Jac 2) (Jaa (Jat (Jga rfl) Jhi rfl (B.is "max") Jjx (Jaa Jag (Jaa (Jac 4) Jaf))) Jaf))))
      (Jao (Jdq (Jjc (Jw3 (Jcf Jvg Jqa (Jac 4) Jag (Jb8 _)) (Jtj (Jfx (Jel (Jaq c_law_two_right hr (by omega) rfl (Jaa (Jac 3) (Jaa (Jac 14) (Jaa (Jac 15) (Jaa (Jac 10) Jaf))))))))))
      (Jao (Ja8 Jhr))
      Jbq)))))))))) PassesOwn.never)
      (Jao (Jir rfl (Jef rfl (B.is "range") (Jaa (Jac 4) Jaf)) (Ja5 (i := 16) Jee.nd)
      (Jak (Jbs (i := 17) Jee.nd (Jaq c_common_of hr (by omega) rfl (Jaa (Jed (Jaa (Jbl Jas Jar (Jac 3) Jag (fun _ _ => rfl)) (Jaa (Jdf (Jaa (Jbl Jas Jar (Jbl Jas Jar (Jac 3) Jag (fun _ _ => rfl)) (Jac 16) (fun _ _ => rfl)) (Jaa (Jaq c_span_of hr (by omega) rfl (Jaa (Jac 3) Jaf)) Jaf)) (Jal (Jal Ja7))) Jaf)) (Jal (Jal Ja7))) (Jaa Jag (Jaa Jag Jaf)))))
      (Jak (Jdq (Jcf (Jf8 hr) Jf2 (Jac 17) (Jbl Jas Jar (Jbl Jas Jar (Jac 3) Jag (fun _ _ => rfl)) (Jac 16) (fun _ _ => rfl)) (Jb8 _))
      (Jao (Ja8 Jhr))
      Jbq)
      (Jao (Jdq (Jcf (Jf8 hr) Jf2 (Jaq c_size_of hr (by omega) rfl (Jaa (Jac 8) (Jaa (Jac 16) Jaf))) (Jaq c_size_of hr (by omega) rfl (Jaa (Jac 3) (Jaa (Jac 16) Jaf))) (Jb8 _))
      (Jao (Ja8 Jhr))
      Jbq)))) PassesOwn.never)))))))))))) PassesOwn.never)
      (Jao (Ja8 Jhr)))
end
end W06
end
section
set_option Elab.async false
set_option maxRecDepth 10000
set_option linter.all false
set_option maxHeartbeats 4000000
namespace W06
open PySem L2 VS
theorem Jfy (i:Int):Jb1 [.int i] = some (.bl true) := by
  simp [Jb1,Jln,Ja0,Jad,Jbc,Jaj,Jae,Jbv,Jmq,Jtz,Jck,den,-List.map_map,-Option.map_bind]
theorem Jk4 {n:Int} (h:n = 1 ∨ n = 2 ∨ n = 3):Jcm [.int n] = some (.bl true) := by
  have e:(Spec.lookup (.int n) Bc.D3).isSome = true := by rw [Bc.JD1]; exact decide_eq_true h
  simp [Jcm,Jlq,Ja0,Jad,Jiy,Jaj,Jae,Jmq,Jca,Jck,den,denL,age,ageL,Ja2,Jav,-List.map_map,-Option.map_bind,Jfy,oTab,e]
theorem Jit (p:St2):Jcb [encS p] = some (.bl (decide (p.1 < p.2))) := by
  have h:seeP [] (encS p) = some (pS p) := Jsj [] p
  simp only [encS] at h ⊢
  simp [Jcb,Jjw,Jbu,Ja0,Jb9,Jbe,Jad,Jbc,Jap,Jaj,Jae,Jbv,Jmq,Jaw,Jg1,Jg2,Jca,oI,yes2,oLt,oEq,oIx,bLen,VS.listOf,Jax,Jck,den,denL,age,ageL,Ja2,Jav,-List.map_map,-Option.map_bind,Jfy,h,pS]
theorem Jv2 (n:Nat) (b:List St2) (hb:∀ p ∈ b,p.1 < p.2) (hl:b.length ≤ 1000):Jkp [some (.int n),some (encB b)] [] = some (b.map (fun _ => D.bl true),[]) := by
  unfold Jkp Jcg
  have e:iSeq (eVar 1) [some (.int n),some (encB b)] [] = some ((b.map encS,[]),[]) := by simp [Jad,VS.listOf,Jax,VS.idOf,Jcz,-List.map_map,-Option.map_bind,encB]
  rw [e]
  simp only [Option.bind_some]
  rw [Jhp (by simp) (fun _ => .bl true) _ (by simp; omega)]
  · simp [Function.comp_def]
  · intro d hd
    obtain ⟨p,hp,rfl⟩ := List.mem_map.mp hd
    refine ⟨_,rfl,?_⟩
    have h1 := Jit p
    rw [decide_eq_true (hb p hp)] at h1
    simp [Jad,Jaj,Jae,capE,Jca,denL,ageL,Jav,List.replicate_succ,-List.map_map,-Option.map_bind,h1]
theorem Jjl {α:Type} (l:List α):bAll.boolsOf (l.map fun _ => D.bl true) = some (l.map fun _ => true) := by
  have := Jii (l.map fun _ => true)
  rw [List.map_map] at this
  exact this
theorem Jnv {n:Nat} {b:List St2} (hn:n = 1 ∨ n = 2 ∨ n = 3) (hb:∀ p ∈ b,p.1 < p.2) (hl:b.length = n):Jc2 [.int n,encB b] = some (.bl true) := by
  have hw:Jcm [.int n] = some (.bl true) := Jk4 (by omega)
  have hc := Jv2 n b hb (by omega)
  have h:seeP [] (encB b) = some (pB b) := Jkg [] b
  have hlen:bLen [] [encB b] = some (.int n) := by simp [bLen,encB,Jax,hl]
  simp [Jc2,Jq1,sSeq,sIf,sRet,sNil,VS.tOr,VS.tNot,tVal,Jam,eCB,Jab,aNil,eVar,eC,eOp,eFrz,runP,den,denL,age,ageL,Ja2,Jav,hw,h,pB,hlen,oEq,hc,bAll,VS.listOf,Jjl]
theorem Jy6 {n:Nat} (h:n = 1 ∨ n = 2 ∨ n = 3):Jql Bc.D3 [] (.int n) = some (.int ([0,20,10,6].getD n 0:Nat)) := by
  rcases h with h | h | h <;> subst h <;> rfl
theorem Jtn {n:Nat} {m:Bool} {bs:List (List St2)} (g:Good n bs):Jje [some (encH m n bs),some (.int n),some (.lst m (bs.map encB))] [] = some (bs.map (fun _ => D.bl true),[]) := by
  have few := g.few
  unfold Jje Jcg
  have e:iSeq (eVar 2) [some (encH m n bs),some (.int n),some (.lst m (bs.map encB))] [] = some ((bs.map encB,[]),[]) := by simp [Jad,VS.listOf,Jax,VS.idOf,Jcz,-List.map_map,-Option.map_bind]
  rw [e]
  simp only [Option.bind_some]
  rw [Jhp (by simp) (fun _ => .bl true) _ (by simp; omega)]
  · simp [Function.comp_def]
  · intro d hd
    obtain ⟨b,hb,rfl⟩ := List.mem_map.mp hd
    refine ⟨_,rfl,?_⟩
    have h1 := Jnv g.ways (fun p hp => ((g.box b hb).2 p hp).1) (g.box b hb).1
    simp [Jad,Jaj,Jae,capE,Jca,den,denL,age,ageL,Ja2,Jav,List.replicate_succ,-List.map_map,-Option.map_bind,h1]
theorem Jjd {n:Nat} {m:Bool} {bs:List (List St2)} (g:Good n bs):Jbz [encH m n bs] = some (.bl true) := by
  have hw:Jcm [.int n] = some (.bl true) := Jk4 (by have := g.ways; omega)
  have hc := Jtn (m := m) g
  have h := Jsk [] m n bs
  have h2 := Jhj [] m bs
  have hm := Jy6 g.ways
  have hle:¬ (([0,20,10,6].getD n 0:Nat):Int) < (bs.length:Int) := by have := g.most; omega
  unfold encH at h hc ⊢
  simp only [List.getD_eq_getElem?_getD] at hm hle
  simp [Jbz,Jn3,sSeq,sIf,sRet,sNil,sSet,VS.tOr,VS.tNot,tVal,Jam,eCB,Jab,aNil,eVar,eC,eOp,eUn,eFrz,runP,den,denL,age,ageL,Ja2,Jav,hw,h,h2,hc,oEq,oIx,oGt,oI,yes2,bLen,VS.Jax,VS.listOf,bAll,Jjl,hm,hle]
theorem Jfs {n:Nat} {m:Bool} {bs:List (List St2)} (g:Good n bs):Jbm [encH m n bs] = some .non := by
  have h := Jjd (m := false) g
  simp [Jbm,Jkt,Jb9,Jbe,Jnb,Jad,Jaj,Jae,Jaw,Jg2,Jca,Jck,denL,ageL,Jav,-List.map_map,-Option.map_bind,h]
end W06
end
section
set_option Elab.async false
set_option maxRecDepth 10000
set_option linter.all false
set_option maxHeartbeats 4000000
namespace W06
open PySem L2 VS
theorem Jxw (c:Int):∃ x y,Jdm [.int c] = some (.lst true [.int x,.int y]) := by
  by_cases h:(1000000000000000000:Int) ≤ c <;> simp [Jdm,Jlk,Jbu,Ja0,Jb9,Jbe,Jad,Jbc,Jap,Jaj,Jae,Jaw,Ja3,oI,yes2,cMod,cPow,oMod,oPow,oGe,Jck,den,denL,-List.map_map,-Option.map_bind,h]
theorem Jcu (x y m:Int) (h0:0 < m) (h1:m < 2 ^ 63):∃ r x' y',Jah [x,y] [.int m] = some (.int r,[x',y']) ∧ 0 ≤ r ∧ r < m := by
  have hm:m < 18446744073709551616 := by omega
  by_cases h:0 < x
  · simp [Jah,Jji,Jbu,Jau,Ja0,Jb9,Jbe,Jf6,Jad,Jbc,Jap,Jaj,Jae,Jbv,Jaw,Ja3,oI,yes2,cMul,cDiv,cMod,cPow,oAdd,oMul,oDiv,oMod,oPow,oGt,oIx,bInt,VS.listOf,Jax,Jdd,intsOf,den,List.replicate_succ,-List.map_map,-Option.map_bind,h,h0,hm]
    exact ⟨Int.emod_nonneg _ (by omega),Int.emod_lt_of_pos _ h0⟩
  · have hc:∀ t:Int,-18446744073709551616 < t % 2147483647 ∧ t % 2147483647 < 18446744073709551616 := fun t => by omega
    have hc2:∀ t:Int,-18446744073709551616 < t % 2147483587 ∧ t % 2147483587 < 18446744073709551616 := fun t => by omega
    have hc3:∀ t:Int,-18446744073709551616 < t % 2147483629 / 8 ∧ t % 2147483629 / 8 < 18446744073709551616 := fun t => by omega
    by_cases hb:1000000 < m <;> simp [Jah,Jji,Jbu,Jau,Ja0,Jb9,Jbe,Jf6,Jad,Jbc,Jap,Jaj,Jae,Jbv,Jaw,Ja3,oI,yes2,cMul,cDiv,cMod,cPow,oAdd,oMul,oDiv,oMod,oPow,oGt,oIx,bInt,VS.listOf,Jax,Jdd,intsOf,den,List.replicate_succ,-List.map_map,-Option.map_bind,h,h0,hm,hb,hc,hc2,hc3] <;> exact ⟨Int.emod_nonneg _ (by omega),Int.emod_lt_of_pos _ h0⟩
structure Marks (ms:List Int):Prop where
  rise:ms.Pairwise (· < ·)
  two:2 ≤ ms.length
  few:ms.length ≤ 60
  near:∀ x ∈ ms,-1000000000 ≤ x ∧ x ≤ 1000000000
theorem Jlw {lo:Int} {n:Nat} (h1:2 ≤ n) (h2:n ≤ 60) (h3:-1000000000 ≤ lo) (h4:lo + n ≤ 1000000000):Marks ((List.range n).map fun (i:Nat) => lo + (i:Int)) := by
  refine ⟨?_,by simpa using h1,by simpa using h2,fun x hx => ?_⟩
  · rw [List.pairwise_map]
    exact List.pairwise_lt_range.imp fun h => by omega
  · obtain ⟨i,hi,rfl⟩ := List.mem_map.mp hx
    have := List.mem_range.mp hi
    omega
theorem Jy9 (x y many f w:Int) (h0:0 ≤ many) (h1:many ≤ 40):∃ (ns:List Int) (x' y':Int),Jhb [some (.ref 0),some (.int many),some (.int f),some (.int w),none] [some [.int x,.int y]] = some (ns.map .int,[some [.int x',.int y']]) ∧ ns.length ≤ 42 ∧ ∀ n ∈ ns,-1000000000 ≤ n ∧ n ≤ 1000000000 := by
  have e:Jc0 (Jab (eOp oAdd (eC (.int 2)) (eVar 1)) aNil) [some (.ref 0),some (.int many),some (.int f),some (.int w),none] [some [.int x,.int y]] = some ((upD 0 (2 + many).toNat,[]),[some [.int x,.int y]]) := by
    exact Jio _ (by simp [Jad,Jbc,Jap,Jaj,Jae,oAdd,VS.listOf,-List.map_map,-Option.map_bind]) rfl (by omega) (by omega)
  unfold Jhb Jcg
  rw [e]
  simp only [Option.bind_some]
  obtain ⟨ys,S',e2,⟨ns,x',y',rfl,rfl,hl,hb⟩⟩ := Jka (w := []) (e0 := capE 1 [0] [some (.ref 0),some (.int many),some (.int f),some (.int w),none]) (g := Pat.sem (.nm 0)) (ds := upD 0 (2 + many).toNat) (S := [some [.int x,.int y]])
    (f := (eOp oSub (Ja4 Jah (Jab (eVar 1) (Jab (eOp oAdd (eOp oMul (eC (.int 2)) (eOp oPow (eC (.int 10)) (eC (.int 9)))) (eC (.int 1))) aNil))) (eOp oPow (eC (.int 10)) (eC (.int 9)))))
    (fun i ys S => ∃ (ns:List Int) (x' y':Int),ys = ns.map D.int ∧ S = [some [.int x',.int y']] ∧ ns.length = min i 42 ∧ ∀ n ∈ ns,-1000000000 ≤ n ∧ n ≤ 1000000000)
    ⟨[],x,y,rfl,rfl,rfl,fun n hn => by simp at hn⟩ (fun i ys S ⟨ns,x',y',h1,h2,h3,h4⟩ => ⟨by simp,by rw [h1,List.length_map,h3]; omega⟩)
    (fun i d ys S hd ⟨ns,x',y',h1,h2,h3,h4⟩ => by
      obtain ⟨hi,rfl⟩ := Jhx hd
      obtain ⟨r,x2,y2,e3,r0,r1⟩ := Jcu x' y' 2000000001 (by decide) (by decide)
      subst h1 h2
      refine ⟨_,.int (r - 1000000000),[some [.int x2,.int y2]],rfl,?_,ns ++ [r - 1000000000],x2,y2,by simp,rfl,by simp; omega,fun n hn => ?_⟩
      · simp [Jad,Jbc,Jap,Jaj,Jae,capE,Ja6,oI,yes2,cMul,cPow,oAdd,oSub,oMul,oPow,VS.listOf,intsOf,den,denL,age,ageL,Ja2,Jav,List.replicate_succ,-List.map_map,-Option.map_bind,e3]
      · rcases List.mem_append.mp hn with z | z
        · exact h4 n z
        · have:n = r - 1000000000 := by simpa using z
          omega)
  refine ⟨ns,x',y',e2,by omega,hb⟩
theorem Jle {ns:List Int} {f:Int} (hl:ns.length ≤ 44) (hb:∀ n ∈ ns,-1000000000 ≤ n ∧ n ≤ 1000000000) (h1:-1000000000 ≤ f) (h2:f + 1 ≤ 1000000000):Marks (Ji8 (ns ++ [f,f + 1])) ∧ (SetP.once (ns ++ [f,f + 1])).length < 64 := by
  obtain ⟨o1,o2,o3⟩ := SetP.Jqk (ns ++ [f,f + 1])
  have hp:(Ji8 (ns ++ [f,f + 1])).Perm (SetP.once (ns ++ [f,f + 1])) := List.mergeSort_perm _ _
  have hlen:(ns ++ [f,f + 1]).length ≤ 46 := by simp; omega
  have hs:(Ji8 (ns ++ [f,f + 1])).Pairwise (· ≤ ·) := by
    have := List.pairwise_mergeSort (le := fun a b:Int => decide (a ≤ b)) (by intro a b c h1 h2; simp at *; omega) (by intro a b; simp; omega) (SetP.once (ns ++ [f,f + 1]))
    exact this.imp fun h => by simpa using h
  have mem:∀ z,z ∈ Ji8 (ns ++ [f,f + 1]) ↔ z ∈ ns ++ [f,f + 1] := fun z => hp.mem_iff.trans (o3 z)
  refine ⟨⟨?_,?_,by rw [hp.length_eq]; omega,fun z hz => ?_⟩,by omega⟩
  · have nd := hp.nodup_iff.mpr o1
    exact (hs.and nd).imp fun ⟨h,n⟩ => by omega
  · have m1:f ∈ Ji8 (ns ++ [f,f + 1]) := (mem f).mpr (by simp)
    have m2:f + 1 ∈ Ji8 (ns ++ [f,f + 1]) := (mem _).mpr (by simp)
    match Ji8 (ns ++ [f,f + 1]),m1,m2 with
    | [],m1,_ => simp at m1
    | [z],m1,m2 => simp at m1 m2; omega
    | _ :: _ :: _,_,_ => simp
  · rcases List.mem_append.mp ((mem z).mp hz) with q | q
    · exact hb z q
    · simp at q; omega
theorem Jvo (x y many:Int) (h0:0 ≤ many) (h1:many ≤ 40):∃ ms x' y',Jb5 [x,y] [.int many] = some (.lst true (ms.map .int),[x',y']) ∧ Marks ms := by
  obtain ⟨r,x1,y1,e1,r0,r1⟩ := Jcu x y 1999999980 (by decide) (by decide)
  obtain ⟨w,x2,y2,e2,w0,w1⟩ := Jcu x1 y1 5 (by decide) (by decide)
  obtain ⟨ns,x3,y3,e3,hl,hb⟩ := Jy9 x2 y2 many (r - 1000000000 + 10) w h0 h1
  have hw:w = 0 ∨ w = 1 ∨ w = 2 ∨ w = 3 ∨ w = 4 := by omega
  rcases hw with rfl | rfl | rfl | rfl | rfl
  · refine ⟨_,x2,y2,?_,Jlw (lo := 0) (n := 7) (by decide) (by decide) (by decide) (by decide)⟩
    rw [← Jik]
    simp [Jb5,Jey,Jbu,Jau,Ja0,Jb9,Jbe,Jad,Jbc,Jap,Jiy,Jaj,Jae,Jaw,Ja3,Ja6,Jei,Jfn,oI,yes2,cMul,cPow,oAdd,oSub,oMul,oPow,oLt,oNeg,oEq,oIx,VS.listOf,Jax,Jdd,intsOf,den,denL,age,ageL,Ja2,Jav,List.replicate_succ,-List.map_map,-Option.map_bind,e1,e2,r62]
  · refine ⟨_,x2,y2,?_,Jlw (lo := -3) (n := 7) (by decide) (by decide) (by decide) (by decide)⟩
    rw [← Jik]
    simp [Jb5,Jey,Jbu,Jau,Ja0,Jb9,Jbe,Jad,Jbc,Jap,Jiy,Jaj,Jae,Jaw,Ja3,Ja6,Jei,Jfn,oI,yes2,cMul,cPow,oAdd,oSub,oMul,oPow,oLt,oNeg,oEq,oIx,VS.listOf,Jax,Jdd,intsOf,den,denL,age,ageL,Ja2,Jav,List.replicate_succ,-List.map_map,-Option.map_bind,e1,e2,r62]
  · refine ⟨_,x2,y2,?_,Jlw (lo := r - 1000000000 + 10) (n := 6) (by decide) (by decide) (by omega) (by omega)⟩
    rw [← Jik]
    have hr:r62 (r - 1000000000 + 10) ∧ r62 (r - 1000000000 + 10 + 6) := by unfold r62; omega
    have h6:(r - 1000000000 + 10 + 6 - (r - 1000000000 + 10)).toNat = 6 := by omega
    have h7:r - 1000000000 + 10 + 6 - (r - 1000000000 + 10) ≤ 1000 := by omega
    simp [Jb5,Jey,Jbu,Jau,Ja0,Jb9,Jbe,Jad,Jbc,Jap,Jiy,Jaj,Jae,Jaw,Ja3,Ja6,Jei,Jfn,oI,yes2,cMul,cPow,oAdd,oSub,oMul,oPow,oLt,oNeg,oEq,oIx,VS.listOf,Jax,Jdd,intsOf,den,denL,age,ageL,Ja2,Jav,List.replicate_succ,-List.map_map,-Option.map_bind,e1,e2,hr,h6,h7]
  · obtain ⟨hm,ho⟩ := Jle (ns := ns ++ [-1000000000,1000000000]) (f := r - 1000000000 + 10) (by simp; omega) (fun n hn => by
      rcases List.mem_append.mp hn with z | z
      · exact hb n z
      · simp at z; omega) (by omega) (by omega)
    refine ⟨_,x3,y3,?_,hm⟩
    rw [List.append_assoc] at ho ⊢
    have hi:intsOf (ns.map D.int ++ [.int (-1000000000),.int 1000000000,.int (r - 1000000000 + 10),.int (r - 1000000000 + 10 + 1)]) = some (ns ++ ([-1000000000,1000000000] ++ [r - 1000000000 + 10,r - 1000000000 + 10 + 1])) := by
      rw [← Jhn (ns ++ ([-1000000000,1000000000] ++ [r - 1000000000 + 10,r - 1000000000 + 10 + 1]))]; simp
    have hl2:ns.length + 4 < 1000 ∧ ns.length + 4 ≤ 1000000 ∧ ns.length + 2 ≤ 1000000 ∧ ns.length + 2 + 2 ≤ 1000000 ∧ ns.length ≤ 999998 ∧ ns.length ≤ 999996 := by omega
    simp only [List.cons_append,List.nil_append] at hi ho ⊢
    simp [Jb5,Jey,Jbu,Jau,Ja0,Jb9,Jbe,Jad,Jbc,Jap,Jiy,Jaj,Jae,Jaw,Ja3,Ja6,Jei,Jfn,oI,yes2,cMul,cPow,oAdd,oSub,oMul,oPow,oLt,oNeg,oEq,oIx,VS.listOf,Jax,Jdd,intsOf,den,denL,age,ageL,Ja2,Jav,List.replicate_succ,-List.map_map,-Option.map_bind,e1,e2,e3,hi,ho,hl2]
  · obtain ⟨hm,ho⟩ := Jle (ns := ns) (f := r - 1000000000 + 10) (by omega) hb (by omega) (by omega)
    refine ⟨_,x3,y3,?_,hm⟩
    have hi:intsOf (ns.map D.int ++ [.int (r - 1000000000 + 10),.int (r - 1000000000 + 10 + 1)]) = some (ns ++ [r - 1000000000 + 10,r - 1000000000 + 10 + 1]) := by
      rw [← Jhn (ns ++ [r - 1000000000 + 10,r - 1000000000 + 10 + 1])]; simp
    have hl2:ns.length + 2 < 1000 ∧ ns.length + 2 ≤ 1000000 ∧ ns.length ≤ 999998 := by omega
    simp [Jb5,Jey,Jbu,Jau,Ja0,Jb9,Jbe,Jad,Jbc,Jap,Jiy,Jaj,Jae,Jaw,Ja3,Ja6,Jei,Jfn,oI,yes2,cMul,cPow,oAdd,oSub,oMul,oPow,oLt,oNeg,oEq,oIx,VS.listOf,Jax,Jdd,intsOf,den,denL,age,ageL,Ja2,Jav,List.replicate_succ,-List.map_map,-Option.map_bind,e1,e2,e3,hi,ho,hl2]
end W06
end
section
set_option Elab.async false
set_option maxRecDepth 10000
set_option linter.all false
set_option maxHeartbeats 4000000
namespace W06
open PySem L2 VS
theorem Jld (x y:Int) (m:Bool) {ms:List Int} (M:Marks ms):∃ p x' y',Jb3 [x,y] [.lst m (ms.map .int)] = some (encS p,[x',y']) ∧ p.1 < p.2 ∧ -1000000000 ≤ p.1 ∧ p.2 ≤ 1000000000 := by
  have h2 := M.two
  have h6 := M.few
  obtain ⟨a,x1,y1,e1,a0,a1⟩ := Jcu x y ((ms.length:Int) - 1) (by omega) (by omega)
  obtain ⟨c,x2,y2,e2,c0,c1⟩ := Jcu x1 y1 ((ms.length:Int) - 1 - a) (by omega) (by omega)
  obtain ⟨u,f1,g1⟩ := Jij (F := D.int) (l := ms) (i := a) a0 (by omega)
  obtain ⟨v,f2,g2⟩ := Jij (F := D.int) (l := ms) (i := a + 1 + c) (by omega) (by omega)
  have hu := M.near u (List.mem_of_getElem? g1)
  have hv := M.near v (List.mem_of_getElem? g2)
  have huv:u < v := by
    obtain ⟨l1,q1⟩ := List.getElem?_eq_some_iff.mp g1
    obtain ⟨l2,q2⟩ := List.getElem?_eq_some_iff.mp g2
    rw [← q1,← q2]
    exact List.pairwise_iff_getElem.mp M.rise _ _ _ _ (by omega)
  refine ⟨(u,v),x2,y2,?_,huv,hu.1,hv.2⟩
  simp [Jb3,Jix,Jbu,Jau,Ja0,Jad,Jbc,Jap,Jaj,Jae,Jbv,Jc7,Ja6,oI,yes2,oAdd,oSub,oIx,bLen,VS.listOf,Jax,Jdd,intsOf,den,denL,age,ageL,Ja2,Jav,List.replicate_succ,-List.map_map,-Option.map_bind,e1,e2,f1,f2,encS]
def encM (m:Bool) (mss:List (List Int)):D := .lst m (mss.map fun ms => .lst m (ms.map .int))
theorem JBr (x y:Int) (b:List St2) (r:VS.Env) (S:Store) (hl:b.length ≤ 3) (d0:Option D):Jh9 (d0 :: some (encB b) :: r) S = some (b.map (fun p => encS (p.2,p.2 + 1)),S) := by
  unfold Jh9 Jcg
  have e:iSeq (eVar 1) (d0 :: some (encB b) :: r) S = some ((b.map encS,[]),S) := by simp [Jad,VS.listOf,Jax,VS.idOf,Jcz,-List.map_map,-Option.map_bind,encB]
  rw [e]
  simp only [Option.bind_some]
  have := Jhp (w := []) (e0 := capE 1 [] (d0 :: some (encB b) :: r)) (g := Pat.sem (.nm 0)) (S := S) (f := eTup (Jab (eOp oIx (eVar 0) (eC (.int 1))) (Jab (eOp oAdd (eOp oIx (eVar 0) (eC (.int 1))) (eC (.int 1))) aNil)))
    (by simp) (fun d => match d with | .tup [_,.int h] => encS (h,h + 1) | _ => .non) (b.map encS) (by simp; omega) (fun d hd => by
      obtain ⟨p,hp,rfl⟩ := List.mem_map.mp hd
      exact ⟨_,rfl,by simp [Jad,Jbc,Jap,Jaj,Jae,Jc7,capE,oAdd,oIx,VS.listOf,Jax,List.replicate_succ,-List.map_map,-Option.map_bind,encS]⟩)
  rw [this]
  simp [encS,Function.comp_def]
theorem Jfk {b:List St2}:Jew (b.map encS) = true := Jfm b fun p _ => Jd0 p
theorem Jy1 (x y:Int) (b:List St2) (m:Bool) (mss:List (List Int)) (h0:1 ≤ b.length) (h3:b.length ≤ 3) (hb:∀ p ∈ b,p.1 < p.2 ∧ -1000000000 ≤ p.1 ∧ p.2 ≤ 1000000000) (hm:mss.length = b.length) (hM:∀ ms ∈ mss,Marks ms) :
    ∃ c x' y',Jcd [x,y] [encB b,encM m mss] = some (encB c,[x',y']) ∧ c.length = b.length ∧ ∀ p ∈ c,p.1 < p.2 := by
  obtain ⟨w,x1,y1,e1,w0,w1⟩ := Jcu x y 6 (by decide) (by decide)
  obtain ⟨a,x2,y2,e2,a0,a1⟩ := Jcu x1 y1 (b.length:Int) (by omega) (by omega)
  obtain ⟨⟨lo,hi⟩,f1,g1⟩ := Jij (F := encS) (l := b) (i := a) a0 a1
  have hp := hb _ (List.mem_of_getElem? g1)
  simp only at hp
  have hal:a.toNat < b.length := by omega
  have c1 := JCi (xs := b.map encS) (a := a) a0 (by simp; omega)
  have c2 := Jwo (xs := b.map encS) (a := a + 1) (by omega) (by simp; omega)
  have t1:(a + 1).toNat = a.toNat + 1 := by omega
  -- the box with another stretch
  have put:∀ q1 q2:Int,q1 < q2 → ∃ c:List St2,(∀ S:Store,denL 1 S ((b.map encS).take a.toNat ++ (D.tup [.int q1,.int q2] :: (b.map encS).drop (a.toNat + 1))) = some (c.map encS)) ∧ c.length = b.length ∧ ∀ p ∈ c,p.1 < p.2 := fun q1 q2 hq => by
    refine ⟨b.take a.toNat ++ (q1,q2) :: b.drop (a.toNat + 1),fun S => ?_,by simp; omega,fun p hp' => ?_⟩
    · rw [show (b.map encS).take a.toNat ++ (D.tup [.int q1,.int q2] :: (b.map encS).drop (a.toNat + 1)) = (b.take a.toNat ++ (q1,q2) :: b.drop (a.toNat + 1)).map encS by simp [List.map_take,List.map_drop,encS]]
      exact Jbn 1 S (Jbr Jfk)
    · rcases List.mem_append.mp hp' with z | z
      · exact (hb p (List.mem_of_mem_take z)).1
      · rcases List.mem_cons.mp z with z | z
        · rw [z]; exact hq
        · exact (hb p (List.mem_of_mem_drop z)).1
  have hlen:min a.toNat b.length ≤ 999999 ∧ min a.toNat b.length + 1 + (b.length - (a.toNat + 1)) ≤ 1000000 ∧ min a.toNat b.length + (b.length - (a.toNat + 1) + 1) ≤ 1000000 ∧ min a.toNat b.length + (1 + (b.length - (a.toNat + 1))) ≤ 1000000 := by omega
  have hw:w = 0 ∨ w = 1 ∨ w = 2 ∨ w = 3 ∨ w = 4 ∨ w = 5 := by omega
  rcases hw with rfl | rfl | rfl | rfl | rfl | rfl
  · refine ⟨b,x2,y2,?_,rfl,fun p hp => (hb p hp).1⟩
    unfold encB at *
    unfold encM
    simp [Jcd,Jex,Jbu,Jau,Ja0,Jb9,Jh3,Jbe,Jad,Jbc,Jap,Jaj,Jae,Jbv,Jaw,Jgm,Jgl,Jky,Ja3,Jc7,Ja6,oI,yes2,oAdd,oSub,oEq,oIx,oSl,bLen,bTup,VS.listOf,Jax,Jdd,Jct,Jf7,Jdv,Jc5,intsOf,den,denL,age,ageL,Ja2,Jav,List.replicate_succ,-List.map_map,-Option.map_bind,e1,e2,f1,encS,Jbn,Jbr,Jfk]
  · obtain ⟨r,x3,y3,e3,r0,r1⟩ := Jcu x2 y2 3 (by decide) (by decide)
    obtain ⟨c,hc,hl,hlt⟩ := put hi (hi + 1 + r) (by omega)
    refine ⟨c,x3,y3,?_,hl,hlt⟩
    unfold encB at *
    unfold encM
    simp [Jcd,Jex,Jbu,Jau,Ja0,Jb9,Jh3,Jbe,Jad,Jbc,Jap,Jaj,Jae,Jbv,Jaw,Jgm,Jgl,Jky,Ja3,Jc7,Ja6,oI,yes2,oAdd,oSub,oEq,oIx,oSl,bLen,bTup,VS.listOf,Jax,Jdd,Jct,Jf7,Jdv,Jc5,intsOf,den,denL,age,ageL,Ja2,Jav,List.replicate_succ,-List.map_map,-Option.map_bind,e1,e2,e3,f1,c1,c2,t1,hlen,hc,encS,Jbn,Jbr,Jfk]
  · obtain ⟨r,x3,y3,e3,r0,r1⟩ := Jcu x2 y2 (hi - lo) (by omega) (by omega)
    obtain ⟨c,hc,hl,hlt⟩ := put (lo + r) hi (by omega)
    refine ⟨c,x3,y3,?_,hl,hlt⟩
    unfold encB at *
    unfold encM
    simp [Jcd,Jex,Jbu,Jau,Ja0,Jb9,Jh3,Jbe,Jad,Jbc,Jap,Jaj,Jae,Jbv,Jaw,Jgm,Jgl,Jky,Ja3,Jc7,Ja6,oI,yes2,oAdd,oSub,oEq,oIx,oSl,bLen,bTup,VS.listOf,Jax,Jdd,Jct,Jf7,Jdv,Jc5,intsOf,den,denL,age,ageL,Ja2,Jav,List.replicate_succ,-List.map_map,-Option.map_bind,e1,e2,e3,f1,c1,c2,t1,hlen,hc,encS,Jbn,Jbr,Jfk]
  · obtain ⟨ms,f3,g3⟩ := Jij (F := fun ms => D.lst m (ms.map D.int)) (l := mss) (i := a) a0 (by omega)
    obtain ⟨⟨u,v⟩,x3,y3,e3,huv,_,_⟩ := Jld x2 y2 false (hM ms (List.mem_of_getElem? g3))
    simp only at huv
    obtain ⟨c,hc,hl,hlt⟩ := put u v huv
    refine ⟨c,x3,y3,?_,hl,hlt⟩
    unfold encB at *
    unfold encM
    simp only [encS] at e3
    simp [Jcd,Jex,Jbu,Jau,Ja0,Jb9,Jh3,Jbe,Jad,Jbc,Jap,Jaj,Jae,Jbv,Jaw,Jgm,Jgl,Jky,Ja3,Jc7,Ja6,oI,yes2,oAdd,oSub,oEq,oIx,oSl,bLen,bTup,VS.listOf,Jax,Jdd,Jct,Jf7,Jdv,Jc5,intsOf,den,denL,age,ageL,Ja2,Jav,List.replicate_succ,-List.map_map,-Option.map_bind,e1,e2,e3,f1,f3,c1,c2,t1,hlen,hc,encS,Jbn,Jbr,Jfk]
  · obtain ⟨r,x3,y3,e3,r0,r1⟩ := Jcu x2 y2 3 (by decide) (by decide)
    obtain ⟨c,hc,hl,hlt⟩ := put (lo - 1 - r) lo (by omega)
    refine ⟨c,x3,y3,?_,hl,hlt⟩
    unfold encB at *
    unfold encM
    simp [Jcd,Jex,Jbu,Jau,Ja0,Jb9,Jh3,Jbe,Jad,Jbc,Jap,Jaj,Jae,Jbv,Jaw,Jgm,Jgl,Jky,Ja3,Jc7,Ja6,oI,yes2,oAdd,oSub,oEq,oIx,oSl,bLen,bTup,VS.listOf,Jax,Jdd,Jct,Jf7,Jdv,Jc5,intsOf,den,denL,age,ageL,Ja2,Jav,List.replicate_succ,-List.map_map,-Option.map_bind,e1,e2,e3,f1,c1,c2,t1,hlen,hc,encS,Jbn,Jbr,Jfk]
  · refine ⟨b.map fun p => (p.2,p.2 + 1),x2,y2,?_,by simp,fun p hp => ?_⟩
    · have hn := JBr x y b
      have hd:∀ S:Store,denL 1 S (b.map fun p => encS (p.2,p.2 + 1)) = some (b.map fun p => encS (p.2,p.2 + 1)) := fun S => Jbn 1 S (Jbr (Jfm b fun p _ => Jd0 _))
      unfold encB at *
      unfold encM
      simp [Jcd,Jex,Jbu,Jau,Ja0,Jb9,Jh3,Jbe,Jad,Jbc,Jap,Jaj,Jae,Jbv,Jaw,Jgm,Jgl,Jky,Ja3,Jc7,Ja6,oI,yes2,oAdd,oSub,oEq,oIx,oSl,bLen,bTup,VS.listOf,Jax,Jdd,Jct,Jf7,Jdv,Jc5,intsOf,den,denL,age,ageL,Ja2,Jav,List.replicate_succ,-List.map_map,-Option.map_bind,e1,e2,f1,hn,h3,encS,Jbn,Jbr,Jfk,Function.comp_def]
      simp [encS] at hd
      exact (hd _).trans (by rw [List.map_map]; rfl)
    · obtain ⟨q,_,rfl⟩ := List.mem_map.mp hp
      simp; omega
end W06
end
section
set_option Elab.async false
set_option maxRecDepth 10000
set_option linter.all false
set_option maxHeartbeats 4000000
namespace W06
open PySem L2 VS
theorem Jzs (x y:Int) (n:Nat) (many:Int) (most:D) (hn:n ≤ 3) (h0:0 ≤ many) (h1:many ≤ 40):∃ (mss:List (List Int)) (x' y':Int),Jgq [some (.ref 0),some (.int n),some most,some (.int many),none,none,none,none,none] [some [.int x,.int y]] = some (mss.map (fun ms => .lst true (ms.map .int)),[some [.int x',.int y']]) ∧ mss.length = n ∧ ∀ ms ∈ mss,Marks ms := by
  have e:Jc0 (Jab (eVar 1) aNil) [some (.ref 0),some (.int n),some most,some (.int many),none,none,none,none,none] [some [.int x,.int y]] = some ((upD 0 n,[]),[some [.int x,.int y]]) := by
    exact Jio _ (by simp [Jad,Jaj,Jae,-List.map_map,-Option.map_bind]; rfl) (by simp) (by omega) (by omega)
  unfold Jgq Jcg
  rw [e]
  simp only [Option.bind_some]
  obtain ⟨ys,S',e2,⟨mss,x',y',rfl,rfl,hl,hb⟩⟩ := Jka (w := []) (e0 := capE 1 [0,3] [some (.ref 0),some (.int n),some most,some (.int many),none,none,none,none,none]) (g := Pat.sem (.nm 0)) (ds := upD 0 n) (S := [some [.int x,.int y]])
    (f := (Ja4 Jb5 (Jab (eVar 1) (Jab (eVar 2) aNil))))
    (fun i ys S => ∃ (mss:List (List Int)) (x' y':Int),ys = mss.map (fun ms => D.lst true (ms.map D.int)) ∧ S = [some [.int x',.int y']] ∧ mss.length = min i 3 ∧ ∀ ms ∈ mss,Marks ms)
    ⟨[],x,y,rfl,rfl,rfl,fun n hn => by simp at hn⟩ (fun i ys S ⟨ns,x',y',h1,h2,h3,h4⟩ => ⟨by simp,by rw [h1,List.length_map,h3]; omega⟩)
    (fun i d ys S hd ⟨mss,x',y',h1,h2,h3,h4⟩ => by
      obtain ⟨hi,rfl⟩ := Jhx hd
      obtain ⟨ms,x2,y2,e3,M⟩ := Jvo x' y' many h0 (by omega)
      subst h1 h2
      refine ⟨_,.lst true (ms.map .int),[some [.int x2,.int y2]],rfl,?_,mss ++ [ms],x2,y2,by simp,rfl,by simp; omega,fun n hn => ?_⟩
      · simp [Jad,Jaj,Jae,capE,Ja6,intsOf,den,denL,age,ageL,Ja2,Jav,List.replicate_succ,-List.map_map,-Option.map_bind,e3]
      · rcases List.mem_append.mp hn with z | z
        · exact h4 n z
        · have:n = ms := by simpa using z
          rw [this]; exact M)
  rw [Ji6] at hl
  exact ⟨mss,x',y',e2,by omega,hb⟩
theorem Jzr (x y:Int) (n:Nat) (most many alike:D) (d7 d8:Option D) (mss:List (List Int)) (bs:List D) (hn:n ≤ 3) (hl:mss.length = n) (hM:∀ ms ∈ mss,Marks ms):∃ (b:List St2) (x' y':Int),
    Jgp [some (.ref 0),some (.int n),some most,some many,some (encM true mss),some (.ref 1),some alike,d7,d8] [some [.int x,.int y],some bs] = some (b.map encS,[some [.int x',.int y'],some bs]) ∧ b.length = n ∧ ∀ p ∈ b,p.1 < p.2 ∧ -1000000000 ≤ p.1 ∧ p.2 ≤ 1000000000 := by
  have e:Jc0 (Jab (eVar 1) aNil) [some (.ref 0),some (.int n),some most,some many,some (encM true mss),some (.ref 1),some alike,d7,d8] [some [.int x,.int y],some bs] = some ((upD 0 n,[]),[some [.int x,.int y],some bs]) := by
    exact Jio _ (by simp [Jad,Jaj,Jae,-List.map_map,-Option.map_bind]; rfl) (by simp) (by omega) (by omega)
  unfold Jgp Jcg
  rw [e]
  simp only [Option.bind_some]
  obtain ⟨ys,S',e2,⟨b,x',y',rfl,rfl,hl,hb⟩⟩ := Jka (w := []) (e0 := capE 1 [0,4] [some (.ref 0),some (.int n),some most,some many,some (encM true mss),some (.ref 1),some alike,d7,d8]) (g := Pat.sem (.nm 0)) (ds := upD 0 n) (S := [some [.int x,.int y],some bs])
    (f := (Ja4 Jb3 (Jab (eVar 1) (Jab (eOp oIx (eVar 2) (eVar 0)) aNil))))
    (fun i ys S => ∃ (b:List St2) (x' y':Int),ys = b.map encS ∧ S = [some [.int x',.int y'],some bs] ∧ b.length = min i 3 ∧ ∀ p ∈ b,p.1 < p.2 ∧ -1000000000 ≤ p.1 ∧ p.2 ≤ 1000000000)
    ⟨[],x,y,rfl,rfl,rfl,fun n hn => by simp at hn⟩ (fun i ys S ⟨ns,x',y',h1,h2,h3,h4⟩ => ⟨by simp,by rw [h1,List.length_map,h3]; omega⟩)
    (fun i d ys S hd ⟨b,x',y',h1,h2,h3,h4⟩ => by
      obtain ⟨hi,rfl⟩ := Jhx hd
      obtain ⟨ms,f1,g1⟩ := Jij (F := fun ms => D.lst true (ms.map D.int)) (l := mss) (i := 0 + (i:Int)) (by omega) (by omega)
      obtain ⟨p,x2,y2,e3,q1,q2,q3⟩ := Jld x' y' false (hM ms (List.mem_of_getElem? g1))
      subst h1 h2
      simp only [Int.zero_add] at f1
      refine ⟨_,encS p,[some [.int x2,.int y2],some bs],rfl,?_,b ++ [p],x2,y2,by simp,rfl,by simp; omega,fun n hn => ?_⟩
      · simp [Jad,Jap,Jaj,Jae,capE,Ja6,oIx,VS.listOf,Jax,intsOf,den,denL,age,ageL,Ja2,Jav,List.replicate_succ,-List.map_map,-Option.map_bind,encM,e3,f1]
      · rcases List.mem_append.mp hn with z | z
        · exact h4 n z
        · have:n = p := by simpa using z
          rw [this]; exact ⟨q1,q2,q3⟩)
  rw [Ji6] at hl
  exact ⟨b,x',y',e2,by omega,hb⟩
def absI (i:Int):Int := if i < 0 then -i else i
def farS (p:St2):Int := if absI p.2 > absI p.1 then absI p.2 else absI p.1
theorem Jzq (r:VS.Env) (b:List St2) (S:Store) (h8:r[8]? = some (some (encB b))) (hl:b.length ≤ 3):Jgo r S = some ((b.map farS).map .int,S) := by
  have e:iSeq (eVar 8) r S = some ((b.map encS,[]),S) := by simp [Jad,VS.listOf,Jax,VS.idOf,Jcz,-List.map_map,-Option.map_bind,h8,encB]
  unfold Jgo Jcg
  rw [e]
  simp only [Option.bind_some]
  have := Jhp (w := []) (e0 := capE 2 [] r) (g := Pat.sem (.tp [.nm 0,.nm 1])) (S := S) (f := eCB Jg0 (Jab (eCB bAbs (Jab (eVar 0) aNil)) (Jab (eCB bAbs (Jab (eVar 1) aNil)) aNil)))
    (by simp) (fun d => match d with | .tup [.int l,.int h] => .int (farS (l,h)) | _ => .non) (b.map encS) (by simp; omega) (fun d hd => by
      obtain ⟨p,hp,rfl⟩ := List.mem_map.mp hd
      exact ⟨_,rfl,by simp [Jad,Jaj,Jae,Jbv,capE,Jg0,bAbs,List.replicate_succ,-List.map_map,-Option.map_bind,encS,farS,absI]⟩)
  rw [this]
  simp [encS,Function.comp_def]
theorem JCe {p:St2} (h:farS p ≤ 1000000000):-1000000000 ≤ p.1 ∧ p.2 ≤ 1000000000 := by
  unfold farS absI at h
  repeat' split at h
  all_goals omega
structure Ok1 (n:Nat) (b:List St2):Prop where
  len:b.length = n
  all:∀ p ∈ b,p.1 < p.2 ∧ -1000000000 ≤ p.1 ∧ p.2 ≤ 1000000000
theorem Jst {m:Bool}:∀ (mss:List (List Int)),Jav (mss.map fun ms => D.lst m (ms.map D.int)) = true
  | [] => rfl
  | ms :: r => by rw [List.map_cons,Jav,Ja2,Jeu,Jst r]; rfl
theorem JCp {m:Bool}:∀ (mss:List (List Int)),ageL (mss.map fun ms => D.lst m (ms.map D.int)) = mss.map fun ms => D.lst false (ms.map D.int)
  | [] => by rw [List.map_nil,ageL]; rfl
  | ms :: r => by rw [List.map_cons,ageL,age,Jk5,JCp r]; rfl
theorem Jtb {ns:List Int} (h:ns ≠ []):∃ m,maxI ns = some m := by
  cases ns with
  | nil => exact absurd rfl h
  | cons a r => exact ⟨_,rfl⟩
theorem JCb (x y:Int) (n:Nat) (most many:D) (alike k:Int) (d8:Option D) (mss:List (List Int)) (bs:List (List St2)) (h1:1 ≤ n) (hn:n ≤ 3) (hl:mss.length = n) (hM:∀ ms ∈ mss,Marks ms) (hb:∀ b ∈ bs,Ok1 n b) (few:bs.length ≤ 20):∃ (d8':Option D) (bs':List (List St2)) (x' y':Int),
    Jgr [some (.ref 0),some (.int n),some most,some many,some (encM true mss),some (.ref 1),some (.int alike),some (.int k),d8] [some [.int x,.int y],some (bs.map encB)] = some (.nx,[some (.ref 0),some (.int n),some most,some many,some (encM true mss),some (.ref 1),some (.int alike),some (.int k),d8'],[some [.int x',.int y'],some (bs'.map encB)])
    ∧ bs'.length ≤ bs.length + 1 ∧ ∀ b ∈ bs',Ok1 n b := by
  obtain ⟨b,x1,y1,e1,bl,hb1⟩ := Jzr x y n most many (.int alike) (some (.int k)) d8 mss (bs.map encB) hn hl hM
  -- behind the choice of a box
  have fin:∀ (c:List St2) (x2 y2:Int),c.length = n → (∀ p ∈ c,p.1 < p.2) → ∃ (d8':Option D) (bs':List (List St2)) (x' y':Int),
      (sIf (tVal (eOp oLe (eCB Jom (Jab (eFrz Jgo) aNil)) (eOp oPow (eC (.int 10)) (eC (.int 9))))) (sExp (Jn8 Je3 (eVar 5) (Jab (eVar 8) aNil))) sNil)
        [some (.ref 0),some (.int n),some most,some many,some (encM true mss),some (.ref 1),some (.int alike),some (.int k),some (encB c)] [some [.int x2,.int y2],some (bs.map encB)] = some (.nx,[some (.ref 0),some (.int n),some most,some many,some (encM true mss),some (.ref 1),some (.int alike),some (.int k),d8'],[some [.int x',.int y'],some (bs'.map encB)])
      ∧ bs'.length ≤ bs.length + 1 ∧ ∀ b ∈ bs',Ok1 n b := fun c x2 y2 cl hc => by
    have e3 := Jzq [some (.ref 0),some (.int n),some most,some many,some (encM true mss),some (.ref 1),some (.int alike),some (.int k),some (encB c)] c [some [.int x2,.int y2],some (bs.map encB)] rfl (by omega)
    obtain ⟨m,hm⟩ := Jtb (ns := c.map farS) (by intro z; have := congrArg List.length z; simp at this; rw [this] at cl; simp at cl; omega)
    by_cases hle:m ≤ 1000000000
    · refine ⟨some (encB c),bs ++ [c],x2,y2,?_,by simp,fun d hd => ?_⟩
      · have:bs.length < 1000000 := by omega
        simp [Jb9,Jff,Jbe,Jad,Jbc,Jap,Jaj,Jae,Jbv,Jaw,Ja3,Jiz,oI,yes2,cPow,oPow,oLe,Jom,VS.listOf,Je3,-List.map_map,-Option.map_bind,e3,hm,hle,this]
      · rcases List.mem_append.mp hd with z | z
        · exact hb d z
        · have:d = c := by simpa using z
          subst this
          refine ⟨cl,fun p hp => ?_⟩
          have := (Jpf hm).2 (farS p) (List.mem_map_of_mem hp)
          have := JCe (p := p) (by omega)
          exact ⟨hc p hp,this.1,this.2⟩
    · refine ⟨some (encB c),bs,x2,y2,?_,by omega,hb⟩
      simp [Jb9,Jff,Jbe,Jad,Jbc,Jap,Jaj,Jae,Jbv,Jaw,Ja3,Jiz,oI,yes2,cPow,oPow,oLe,Jom,VS.listOf,Je3,-List.map_map,-Option.map_bind,e3,hm,hle]
  have s1:(sSet 8 (eCB bTup (Jab (eFrz Jgp) aNil))) [some (.ref 0),some (.int n),some most,some many,some (encM true mss),some (.ref 1),some (.int alike),some (.int k),d8] [some [.int x,.int y],some (bs.map encB)] = some (.nx,[some (.ref 0),some (.int n),some most,some many,some (encM true mss),some (.ref 1),some (.int alike),some (.int k),some (encB b)],[some [.int x1,.int y1],some (bs.map encB)]) := by
    simp [Jau,Jaj,Jae,Jbv,Ja3,bTup,VS.listOf,Jax,-List.map_map,-Option.map_bind,e1,encB]
  have hne:eqP true [some [.int x1,.int y1],some (bs.map encB)] (.ref 1) (.lst true []) = some (.bl (true ^^ (bs.map pB).isEmpty)) := Jtw 3 (Ju1 rfl) (Jnr 0 bs) (by decide)
  unfold Jgr
  rw [Jbd s1]
  by_cases hbs:bs = []
  · obtain ⟨d8',bs',x',y',e,q1,q2⟩ := fin b x1 y1 bl fun p hp => (hb1 p hp).1
    refine ⟨d8',bs',x',y',?_,q1,q2⟩
    rw [Jbd (env1 := [some (.ref 0),some (.int n),some most,some many,some (encM true mss),some (.ref 1),some (.int alike),some (.int k),some (encB b)]) (S1 := [some [.int x1,.int y1],some (bs.map encB)])]
    · exact e
    · subst hbs
      simp only [List.map_nil] at hne
      simp [Jau,Jb9,Jbe,Jad,Jbc,Jap,Jaj,Jae,Jbv,Jaw,Jlx,Ja3,Ja6,oI,yes2,oLt,oEq,oIx,bLen,VS.listOf,Jax,den,denL,age,ageL,Ja2,Jav,-List.map_map,-Option.map_bind,hne]
  · obtain ⟨r,x2,y2,e2,r0,r1⟩ := Jcu x1 y1 3 (by decide) (by decide)
    have hne':eqP true [some [.int x1,.int y1],some (bs.map encB)] (.ref 1) (.lst true []) = some (.bl true) := by
      rw [hne]
      cases bs with
      | nil => exact absurd rfl hbs
      | cons a r => rfl
    have pos:0 < bs.length := List.length_pos_iff.mpr hbs
    by_cases hr:r < alike
    · obtain ⟨j,x3,y3,e3,j0,j1⟩ := Jcu x2 y2 (bs.length:Int) (by omega) (by omega)
      obtain ⟨c,f1,g1⟩ := Jij (F := encB) (l := bs) (i := j) j0 (by omega)
      have oc := hb c (List.mem_of_getElem? g1)
      obtain ⟨c',x4,y4,e4,cl,hc⟩ := Jy1 x3 y3 c false mss (by rw [oc.len]; exact h1) (by rw [oc.len]; exact hn) oc.all (by rw [oc.len]; exact hl) hM
      obtain ⟨d8',bs',x',y',e,q1,q2⟩ := fin c' x4 y4 (by rw [cl,oc.len]) hc
      refine ⟨d8',bs',x',y',?_,q1,q2⟩
      have dm:∀ S:Store,den 0 S (encM true mss) = some (encM true mss) := fun S => by
        unfold encM
        rw [den,Jbn 0 S]
        · rfl
        · exact Jst mss
      have am:age (encM true mss) = encM false mss := by
        unfold encM
        rw [age,JCp]
      have pm:Ja2 (encM true mss) = true := by unfold encM; rw [Ja2]; exact Jst mss
      rw [Jbd (env1 := [some (.ref 0),some (.int n),some most,some many,some (encM true mss),some (.ref 1),some (.int alike),some (.int k),some (encB c')]) (S1 := [some [.int x4,.int y4],some (bs.map encB)])]
      · exact e
      · simp [Jau,Jb9,Jbe,Jad,Jbc,Jap,Jaj,Jae,Jbv,Jaw,Jlx,Ja3,Ja6,oI,yes2,oLt,oEq,oIx,bLen,VS.listOf,Jax,intsOf,den,denL,age,ageL,Ja2,Jav,-List.map_map,-Option.map_bind,hne',e2,hr,e3,f1,e4,dm,am,pm]
    · obtain ⟨d8',bs',x',y',e,q1,q2⟩ := fin b x2 y2 bl fun p hp => (hb1 p hp).1
      refine ⟨d8',bs',x',y',?_,q1,q2⟩
      rw [Jbd (env1 := [some (.ref 0),some (.int n),some most,some many,some (encM true mss),some (.ref 1),some (.int alike),some (.int k),some (encB b)]) (S1 := [some [.int x2,.int y2],some (bs.map encB)])]
      · exact e
      · simp [Jau,Jb9,Jbe,Jad,Jbc,Jap,Jaj,Jae,Jbv,Jaw,Jlx,Ja3,Ja6,oI,yes2,oLt,oEq,oIx,bLen,VS.listOf,Jax,intsOf,den,denL,age,ageL,Ja2,Jav,-List.map_map,-Option.map_bind,hne',e2,hr]
theorem JCa (x y:Int) (n:Nat) (most:D) (many alike:Int) (mss:List (List Int)) (h1:1 ≤ n) (hn:n ≤ 3) (hl:mss.length = n) (hM:∀ ms ∈ mss,Marks ms) (m0:0 ≤ many) (m1:many ≤ 20):∃ (d7 d8:Option D) (bs:List (List St2)) (x' y':Int),
    Jia [some (.ref 0),some (.int n),some most,some (.int many),some (encM true mss),some (.ref 1),some (.int alike),none,none] [some [.int x,.int y],some []] = some (.nx,[some (.ref 0),some (.int n),some most,some (.int many),some (encM true mss),some (.ref 1),some (.int alike),d7,d8],[some [.int x',.int y'],some (bs.map encB)])
    ∧ bs.length ≤ many.toNat ∧ ∀ b ∈ bs,Ok1 n b := by
  have e:Jc0 (Jab (eVar 3) aNil) [some (.ref 0),some (.int n),some most,some (.int many),some (encM true mss),some (.ref 1),some (.int alike),none,none] [some [.int x,.int y],some []] = some ((upD 0 many.toNat,[]),[some [.int x,.int y],some []]) :=
    Jio _ (by simp [Jad,Jaj,Jae,-List.map_map,-Option.map_bind]) rfl (by omega) (by omega)
  unfold Jia
  rw [Jfz,e]
  simp only [Option.bind_some]
  obtain ⟨env',S',e2,⟨d7,d8,bs,x',y',rfl,rfl,hb1,hb2⟩⟩ := Jft (w := []) (g := Pat.sem (.nm 7)) (b := Jgr) (ds := upD 0 many.toNat) (env := [some (.ref 0),some (.int n),some most,some (.int many),some (encM true mss),some (.ref 1),some (.int alike),none,none]) (S := [some [.int x,.int y],some []])
    (fun i env S => ∃ (d7 d8:Option D) (bs:List (List St2)) (x' y':Int),env = [some (.ref 0),some (.int n),some most,some (.int many),some (encM true mss),some (.ref 1),some (.int alike),d7,d8] ∧ S = [some [.int x',.int y'],some (bs.map encB)] ∧ bs.length ≤ min i many.toNat ∧ ∀ b ∈ bs,Ok1 n b)
    ⟨none,none,[],x,y,rfl,rfl,by simp,fun b hb => by simp at hb⟩ (fun i env S _ => by simp) (fun i d env S hd ⟨d7,d8,bs,x',y',h1',h2',h3',h4'⟩ => by
      obtain ⟨hi,rfl⟩ := Jhx hd
      subst h1' h2'
      obtain ⟨d8',bs',x2,y2,e3,q1,q2⟩ := JCb x' y' n most (.int many) alike (0 + i) d8 mss bs h1 hn hl hM h4' (by omega)
      exact ⟨_,by rw [Jct]; rfl,_,_,e3,_,d8',bs',x2,y2,rfl,rfl,by omega,q2⟩)
  rw [Ji6] at hb1
  exact ⟨d7,d8,bs,x',y',e2,by omega,hb2⟩
theorem Jpk (x y:Int) (n most:Nat) (h1:1 ≤ n) (hn:n ≤ 3) (hm:most ≤ 20):∃ (bs:List (List St2)) (x' y':Int),Jcw [x,y] [.int n,.int most] = some (encH true n bs,[x',y']) ∧ bs.length ≤ most ∧ ∀ b ∈ bs,Ok1 n b := by
  obtain ⟨r1,x1,y1,e1,p1,p2⟩ := Jcu x y ((if (4:Int) < (most:Int) then (4:Int) else (most:Int)) + 1) (by split <;> omega) (by split <;> omega)
  obtain ⟨r2,x2,y2,e2,p3,p4⟩ := Jcu x1 y1 ((most:Int) + 1) (by omega) (by omega)
  obtain ⟨r3,x3,y3,e3,p5,p6⟩ := Jcu x2 y2 3 (by decide) (by decide)
  obtain ⟨many,f1,m0,m1⟩:∃ many:Int,atI [D.int r1,D.int r2,D.int most] r3 = some (.int many) ∧ 0 ≤ many ∧ many ≤ most := by
    have:r3 = 0 ∨ r3 = 1 ∨ r3 = 2 := by omega
    rcases this with rfl | rfl | rfl
    · exact ⟨r1,by simp,p1,by split at p2 <;> omega⟩
    · exact ⟨r2,by simp,p3,by omega⟩
    · exact ⟨most,by simp,by omega,by omega⟩
  obtain ⟨mss,x4,y4,e4,hl,hM⟩ := Jzs x3 y3 n many (.int most) hn m0 (by omega)
  obtain ⟨al,x5,y5,e5,_,_⟩ := Jcu x4 y4 3 (by decide) (by decide)
  obtain ⟨d7,d8,bs,x6,y6,e6,hb1,hb2⟩ := JCa x5 y5 n (.int most) many al mss h1 hn hl hM m0 (by omega)
  refine ⟨bs,x6,y6,?_,by omega,hb2⟩
  have s1:(sSet 3 (eOp oIx (eFrz (Jab (Ja4 Jah (Jab (eVar 0) (Jab (eOp oAdd (eCB Jjn (Jab (eVar 2) (Jab (eC (.int 4)) aNil))) (eC (.int 1))) aNil))) (Jab (Ja4 Jah (Jab (eVar 0) (Jab (eOp oAdd (eVar 2) (eC (.int 1))) aNil))) (Jab (eVar 2) aNil)))) (Ja4 Jah (Jab (eVar 0) (Jab (eC (.int 3)) aNil))))) [some (.ref 0),some (.int n),some (.int most),none,none,none,none,none,none] [some [.int x,.int y]] = some (.nx,[some (.ref 0),some (.int n),some (.int most),some (.int many),none,none,none,none,none],[some [.int x3,.int y3]]) := by
    simp [Jau,Jad,Jbc,Jap,Jaj,Jae,Jbv,Ja3,Ja6,oAdd,oIx,Jjn,VS.listOf,Jax,intsOf,den,denL,age,ageL,Ja2,Jav,-List.map_map,-Option.map_bind,e1,e2,e3,f1]
  have s2:(sSet 4 (eFrz Jgq)) [some (.ref 0),some (.int n),some (.int most),some (.int many),none,none,none,none,none] [some [.int x3,.int y3]] = some (.nx,[some (.ref 0),some (.int n),some (.int most),some (.int many),some (encM true mss),none,none,none,none],[some [.int x4,.int y4]]) := by
    simp [Jau,Ja3,-List.map_map,-Option.map_bind,e4,encM]
  have s3:(sSet 5 (eSto aNil)) [some (.ref 0),some (.int n),some (.int most),some (.int many),some (encM true mss),none,none,none,none] [some [.int x4,.int y4]] = some (.nx,[some (.ref 0),some (.int n),some (.int most),some (.int many),some (encM true mss),some (.ref 1),none,none,none],[some [.int x4,.int y4],some []]) := by
    simp [Jau,Jaj,Jjk,-List.map_map,-Option.map_bind]
  have s4:(sSet 6 (Ja4 Jah (Jab (eVar 0) (Jab (eC (.int 3)) aNil)))) [some (.ref 0),some (.int n),some (.int most),some (.int many),some (encM true mss),some (.ref 1),none,none,none] [some [.int x4,.int y4],some []] = some (.nx,[some (.ref 0),some (.int n),some (.int most),some (.int many),some (encM true mss),some (.ref 1),some (.int al),none,none],[some [.int x5,.int y5],some []]) := by
    simp [Jau,Jad,Jbc,Jaj,Jae,Ja6,intsOf,den,denL,age,ageL,Ja2,Jav,-List.map_map,-Option.map_bind,e5]
  have run:Jjh [some (.ref 0),some (.int n),some (.int most),none,none,none,none,none,none] [some [.int x,.int y]] = some (.ret (.tup [.int n,.ref 1]),[some (.ref 0),some (.int n),some (.int most),some (.int many),some (encM true mss),some (.ref 1),some (.int al),d7,d8],[some [.int x6,.int y6],some (bs.map encB)]) := by
    unfold Jjh
    rw [Jbd s1,Jbd s2,Jbd s3,Jbd s4,Jbd e6]
    simp [Ja0,Jad,Jaj,Jae,Jc7,-List.map_map,-Option.map_bind]
  unfold Jcw
  rw [Jdd]
  simp only [List.length_cons,List.length_nil,List.map_cons,List.map_nil,Nat.reduceAdd,Nat.reduceSub,List.replicate_succ,List.replicate_zero,List.cons_append,List.nil_append,if_true]
  rw [run]
  simp [intsOf,den,denL,-List.map_map,-Option.map_bind,encH]
theorem Jm4 (x y:Int):∃ (n:Nat) (bs:List (List St2)) (x' y':Int),Jbb [x,y] [] = some (encH true n bs,[x',y']) ∧ Good n bs := by
  obtain ⟨r,x1,y1,e1,p1,p2⟩ := Jcu x y 3 (by decide) (by decide)
  have:r = 0 ∨ r = 1 ∨ r = 2 := by omega
  rcases this with rfl | rfl | rfl
  · obtain ⟨bs,x2,y2,e2,hl,hb⟩ := Jpk x1 y1 1 20 (by decide) (by decide) (by decide)
    have e3:Jcw [x1,y1] [.int 1,.int 20] = some (encH true 1 bs,[x2,y2]) := e2
    refine ⟨1,bs,x2,y2,?_,.inl rfl,hl,fun b h => ⟨(hb b h).len,(hb b h).all⟩⟩
    simp [Jbb,Jeh,Jbu,Jau,Ja0,Jad,Jbc,Jap,Jaj,Jae,Ja3,Ja6,oAdd,oIx,VS.listOf,Jax,Jdd,intsOf,den,denL,age,ageL,Ja2,Jav,List.replicate_succ,-List.map_map,-Option.map_bind,e1,e3]
  · obtain ⟨bs,x2,y2,e2,hl,hb⟩ := Jpk x1 y1 2 10 (by decide) (by decide) (by decide)
    have e3:Jcw [x1,y1] [.int 2,.int 10] = some (encH true 2 bs,[x2,y2]) := e2
    refine ⟨2,bs,x2,y2,?_,.inr (.inl rfl),hl,fun b h => ⟨(hb b h).len,(hb b h).all⟩⟩
    simp [Jbb,Jeh,Jbu,Jau,Ja0,Jad,Jbc,Jap,Jaj,Jae,Ja3,Ja6,oAdd,oIx,VS.listOf,Jax,Jdd,intsOf,den,denL,age,ageL,Ja2,Jav,List.replicate_succ,-List.map_map,-Option.map_bind,e1,e3]
  · obtain ⟨bs,x2,y2,e2,hl,hb⟩ := Jpk x1 y1 3 6 (by decide) (by decide) (by decide)
    have e3:Jcw [x1,y1] [.int 3,.int 6] = some (encH true 3 bs,[x2,y2]) := e2
    refine ⟨3,bs,x2,y2,?_,.inr (.inr rfl),hl,fun b h => ⟨(hb b h).len,(hb b h).all⟩⟩
    simp [Jbb,Jeh,Jbu,Jau,Ja0,Jad,Jbc,Jap,Jaj,Jae,Ja3,Ja6,oAdd,oIx,VS.listOf,Jax,Jdd,intsOf,den,denL,age,ageL,Ja2,Jav,List.replicate_succ,-List.map_map,-Option.map_bind,e1,e3]
end W06
end
section
set_option Elab.async false
set_option maxRecDepth 10000
set_option linter.all false
set_option maxHeartbeats 4000000
namespace W06
open PySem L2 VS
def mx (i j:Int):Int := if j > i then j else i
def mn (i j:Int):Int := if j < i then j else i
def comL:List St2 → List St2 → List St2
  | p :: a,q :: b => (mx p.1 q.1,mn p.2 q.2) :: comL a b
  | _,_ => []
def okL (l:List St2):Bool := l.all fun p => decide (p.1 < p.2)
def encO:Option (List St2) → D
  | none => .non
  | some b => encB b
def comO (a b:List St2):Option (List St2) := if okL (comL a b) = true then some (comL a b) else none
theorem Jq6:∀ a b:List St2,(comL a b).length ≤ a.length
  | [],_ => by simp [comL]
  | _ :: _,[] => by simp [comL]
  | _ :: a,_ :: b => by simp [comL]; exact Jq6 a b
theorem Jr2:∀ a b:List St2,zipD (a.map encS) (b.map encS) = (a.zip b).map fun p => .tup [encS p.1,encS p.2]
  | [],_ => by simp [zipD]
  | _ :: _,[] => by simp [zipD]
  | p :: a,q :: b => by simp [zipD,Jr2 a b]
theorem Jmt:∀ a b:List St2,comL a b = (a.zip b).map fun p => (mx p.1.1 p.2.1,mn p.1.2 p.2.2)
  | [],_ => by simp [comL]
  | _ :: _,[] => by simp [comL]
  | p :: a,q :: b => by simp [comL,Jmt a b]
theorem Jse (a b:List St2) (d:Option D) (ha:a.length ≤ 3):Jgf [some (encB a),some (encB b),d] [] = some ((comL a b).map encS,[]) := by
  have e:Jrw (Jab (eVar 0) (Jab (eVar 1) aNil)) [some (encB a),some (encB b),d] [] = some (((a.zip b).map fun p => .tup [encS p.1,encS p.2],[]),[]) := by
    rw [← Jr2]; simp [Jad,Jaj,Jae,VS.listOf,VS.idOf,Jqz,-List.map_map,-Option.map_bind,encB]
  unfold Jgf Jcg
  rw [e]
  simp only [Option.bind_some]
  have := Jhp (w := []) (e0 := capE 2 [] [some (encB a),some (encB b),d]) (g := Pat.sem (.tp [.nm 0,.nm 1])) (S := []) (f := eTup (Jab (eCB Jg0 (Jab (eOp oIx (eVar 0) (eC (.int 0))) (Jab (eOp oIx (eVar 1) (eC (.int 0))) aNil))) (Jab (eCB Jjn (Jab (eOp oIx (eVar 0) (eC (.int 1))) (Jab (eOp oIx (eVar 1) (eC (.int 1))) aNil))) aNil)))
    (by simp) (fun d => match d with | .tup [.tup [.int l,.int h],.tup [.int l',.int h']] => encS (mx l l',mn h h') | _ => .non) ((a.zip b).map fun p => .tup [encS p.1,encS p.2]) (by simp; omega) (fun d hd => by
      obtain ⟨p,hp,rfl⟩ := List.mem_map.mp hd
      exact ⟨_,rfl,by simp [Jad,Jbc,Jap,Jaj,Jae,Jbv,Jc7,capE,oIx,Jg0,Jjn,VS.listOf,Jax,List.replicate_succ,-List.map_map,-Option.map_bind,encS,mx,mn]⟩)
  rw [this,Jmt]
  simp [encS]
theorem Jsd (l:List St2) (x y:Option D) (hl:l.length ≤ 3):Jge [x,y,some (.lst true (l.map encS))] [] = some (l.map (fun p => D.bl (decide (p.1 < p.2))),[]) := by
  have e:iSeq (eVar 2) [x,y,some (.lst true (l.map encS))] [] = some ((l.map encS,[]),[]) := by simp [Jad,VS.listOf,Jax,VS.idOf,Jcz,-List.map_map,-Option.map_bind]
  unfold Jge Jcg
  rw [e]
  simp only [Option.bind_some]
  have := Jhp (w := []) (e0 := capE 1 [] [x,y,some (.lst true (l.map encS))]) (g := Pat.sem (.nm 0)) (S := []) (f := Jam Jcb (Jab (eVar 0) aNil))
    (by simp) (fun d => match d with | .tup [.int l,.int h] => .bl (decide (l < h)) | _ => .non) (l.map encS) (by simp; omega) (fun d hd => by
      obtain ⟨p,hp,rfl⟩ := List.mem_map.mp hd
      refine ⟨_,rfl,?_⟩
      have h1 := Jit p
      simp [Jad,Jaj,Jae,capE,Jca,denL,ageL,Jav,List.replicate_succ,-List.map_map,-Option.map_bind,h1]
      rfl)
  rw [this,List.map_map]
  rfl
theorem Jwt (l:List St2):bAll.boolsOf (l.map fun p => D.bl (decide (p.1 < p.2))) = some (l.map fun p => decide (p.1 < p.2)) := by
  have := Jii (l.map fun p => decide (p.1 < p.2))
  rw [List.map_map] at this
  exact this
theorem Jsc (a b:List St2) (ha:a.length ≤ 3):Jcy [encB a,encB b] = some (encO (comO a b)) := by
  have c1 := Jse a b none ha
  have hl := Jq6 a b
  have c2 := Jsd (comL a b) (some (encB a)) (some (encB b)) (by omega)
  have hb:∀ S:Store,bAll S [.lst true ((comL a b).map fun p => D.bl (decide (p.1 < p.2)))] = some (.bl (okL (comL a b))) := fun S => by
    unfold bAll
    simp only [VS.listOf,Option.bind_some,Jwt,Option.map_some]
    unfold okL
    rw [List.all_map]
    rfl
  by_cases h:okL (comL a b) = true
  · simp only [comO,h,if_true,encO]
    rw [h] at hb
    have hd:∀ S:Store,denL 0 S ((comL a b).map encS) = some ((comL a b).map encS) := fun S => Jbn 0 S (Jbr (Jfm _ fun p _ => Jd0 p))
    simp [Jcy,Jhf,Jbu,Jau,Ja3,c1,c2,Jb9,Ja0,Jbe,Jaw,Jbv,Jae,Jaj,Jad,Jck,hb,bTup,VS.Jax,VS.listOf,den,hd]
    rfl
  · have h':okL (comL a b) = false := by simpa using h
    simp only [comO,h',encO]
    rw [h'] at hb
    simp [Jcy,Jhf,Jbu,Jau,Ja3,c1,c2,Jb9,Ja0,Jbe,Jaw,Jbv,Jae,Jaj,Jad,Jbc,Jck,hb,den,encO]
theorem Jh6 {n:Nat} {bs:List (List St2)} {i:Nat} {b:List St2} (h:bs[i]? = some b):Jbx [encH false n bs,.int i] = some (encB b) := by
  have hi := (List.getElem?_eq_some_iff.mp h).1
  have ha:atI (bs.map encB) (i:Int) = some (encB b) := Jgv (by rw [List.getElem?_map,h]; rfl)
  have h1:¬ ((i:Int) < 0) := by omega
  have h2:¬ ((bs.length:Int) ≤ (i:Int)) := by omega
  simp [Jbx,Jhw,Jbu,Ja0,Jb9,Jbe,Jnb,Jad,Jbc,Jap,Jaj,Jae,Jbv,Jaw,Jg1,Jg2,Jca,oI,yes2,oLt,oGe,oIx,bLen,VS.listOf,Jax,Jck,den,denL,age,ageL,Ja2,Jav,-List.map_map,-Option.map_bind,Jfy,h1,h2,encH,ha]
theorem Ji2 {n:Nat} {bs:List (List St2)} (g:Good n bs) {i j:Nat} {a b:List St2} (hi:bs[i]? = some a) (hj:bs[j]? = some b):Ja1 [encH false n bs,.int i,.int j] = some (encO (comO a b)) := by
  have h1 := Jfs (m := false) g
  have h2 := Jh6 (n := n) hi
  have h3 := Jh6 (n := n) hj
  have := (g.box a (List.mem_of_getElem? hi)).1
  have := g.n3
  have h4 := Jsc a b (by omega)
  have hp:Ja2 (encO (comO a b)) = true ∧ den 0 [] (encO (comO a b)) = some (encO (comO a b)) := by
    unfold comO
    split <;> simp [encO,Ja2,den]
  simp [Ja1,Jkx,Jbu,Ja0,Jff,Jad,Jaj,Jae,Jca,Jck,den,denL,age,ageL,Ja2,Jav,-List.map_map,-Option.map_bind,h1,h2,h3,h4,hp]
def Jnp (bs:List (List St2)) (w:Nat):List Int := bs.map fun b => (b.getD w (0,0)).1
def Jju (bs:List (List St2)) (w:Nat):List Int := bs.map fun b => (b.getD w (0,0)).2
def Jfp (bs:List (List St2)) (w:Nat):St2 := ((minI (Jnp bs w)).getD 0,(maxI (Jju bs w)).getD 0)
theorem Js9 {ns:List Int} (h:ns ≠ []):∃ m,minI ns = some m := by
  cases ns with
  | nil => exact absurd rfl h
  | cons a r => exact ⟨_,rfl⟩
theorem Jvn {ns:List Int} (h:ns ≠ []):∃ m,maxI ns = some m := by
  cases ns with
  | nil => exact absurd rfl h
  | cons a r => exact ⟨_,rfl⟩
theorem Jp4 {bs:List (List St2)} (h:bs ≠ []) (w:Nat):minI (Jnp bs w) = some (Jfp bs w).1 := by
  obtain ⟨m,e⟩ := Js9 (ns := Jnp bs w) (by unfold Jnp; simpa using h)
  simp [Jfp,e]
theorem Jp5 {bs:List (List St2)} (h:bs ≠ []) (w:Nat):maxI (Jju bs w) = some (Jfp bs w).2 := by
  obtain ⟨m,e⟩ := Jvn (ns := Jju bs w) (by unfold Jju; simpa using h)
  simp [Jfp,e]
theorem col {bs:List (List St2)} {w:Nat} (hw:∀ b ∈ bs,w < b.length) (hl:bs.length ≤ 1000) (S:Store) (e0:VS.Env) (h0:∀ d:D,(e0.set 0 (some d))[0]? = some (some d) ∧ (e0.set 0 (some d))[1]? = some (some (.int w))) :
    Jfq [] e0 (Pat.sem (.nm 0)) tYes (eOp oIx (eOp oIx (eVar 0) (eVar 1)) (eC (.int 0))) (bs.map encB) [] S = some ((Jnp bs w).map .int,S) ∧
    Jfq [] e0 (Pat.sem (.nm 0)) tYes (eOp oIx (eOp oIx (eVar 0) (eVar 1)) (eC (.int 1))) (bs.map encB) [] S = some ((Jju bs w).map .int,S) := by
  have key:∀ b ∈ bs,atI (b.map encS) (w:Int) = some (encS (b.getD w (0,0))) := fun b hb => by
    have h := hw b hb
    refine Jgv ?_
    rw [List.getElem?_map,List.getElem?_eq_getElem h]
    simp [h]
  constructor
  · rw [Jez (by simp) encB (fun b => .int (b.getD w (0,0)).1) bs (by omega)]
    · rw [Jnp,List.map_map]; rfl
    · intro b hb
      refine ⟨_,Jct _ _ _,?_⟩
      have ha := key b hb
      simp only [encS] at ha
      simp [Jad,Jbc,Jap,oIx,VS.listOf,Jax,-List.map_map,-Option.map_bind,h0,encB,ha]
  · rw [Jez (by simp) encB (fun b => .int (b.getD w (0,0)).2) bs (by omega)]
    · rw [Jju,List.map_map]; rfl
    · intro b hb
      refine ⟨_,Jct _ _ _,?_⟩
      have ha := key b hb
      simp only [encS] at ha
      simp [Jad,Jbc,Jap,oIx,VS.listOf,Jax,-List.map_map,-Option.map_bind,h0,encB,ha]
theorem Jwv {m:Bool} {bs:List (List St2)} {w:Nat} (hw:∀ b ∈ bs,w < b.length) (hl:bs.length ≤ 1000) (hne:bs ≠ []):Jdi [.lst m (bs.map encB),.int w] = some (encS (Jfp bs w)) := by
  obtain ⟨c1,c2⟩ := col hw hl [] [none,some (.int w)] fun d => ⟨rfl,rfl⟩
  have e1:Jgd [some (.lst m (bs.map encB)),some (.int w)] [] = some ((Jju bs w).map .int,[]) := by
    have e:iSeq (eVar 0) [some (.lst m (bs.map encB)),some (.int w)] [] = some ((bs.map encB,[]),[]) := by simp [Jad,VS.listOf,Jax,VS.idOf,Jcz,-List.map_map,-Option.map_bind]
    unfold Jgd Jcg
    rw [e]
    exact c2
  have e2:Jgc [some (.lst m (bs.map encB)),some (.int w)] [] = some ((Jnp bs w).map .int,[]) := by
    have e:iSeq (eVar 0) [some (.lst m (bs.map encB)),some (.int w)] [] = some ((bs.map encB,[]),[]) := by simp [Jad,VS.listOf,Jax,VS.idOf,Jcz,-List.map_map,-Option.map_bind]
    unfold Jgc Jcg
    rw [e]
    exact c1
  simp [Jdi,Jjv,Ja0,Jaj,Jae,Jbv,Ja3,Jc7,Jom,Jwu,VS.listOf,Jck,den,denL,-List.map_map,-Option.map_bind,e1,e2,Jp4 hne,Jp5 hne,encS]
def Jsa (n:Nat) (bs:List (List St2)):Option (List St2) := if bs = [] then none else some ((List.range n).map (Jfp bs))
theorem Jx6 {n:Nat} {bs:List (List St2)} (g:Good n bs):Jcx [encH false n bs] = some (encO (Jsa n bs)) := by
  have h1 := Jfs (m := false) g
  have few := g.few
  have n3 := g.n3
  by_cases hb:bs = []
  · subst hb
    simp [Jcx,Jiw,Jbu,Ja0,Jb9,Jff,Jbe,Jad,Jbc,Jap,Jaj,Jae,Jbv,Jaw,Ja3,Jca,oEq,oIx,bLen,bTup,VS.listOf,Jax,Jck,denL,ageL,Jav,-List.map_map,-Option.map_bind,h1,Jsa,encO]
    simp [den,-List.map_map,-Option.map_bind,encH]
  · have hl:¬ ((bs.length:Int) = 0) := by have := List.length_pos_iff.mpr hb; omega
    have e:Jc0 (Jab (eOp oIx (eVar 0) (eC (.int 0))) aNil) [some (encH false n bs)] [] = some ((upD 0 n,[]),[]) := Jio _ (by simp [Jad,Jbc,Jap,Jaj,Jae,oIx,VS.listOf,Jax,-List.map_map,-Option.map_bind,encH]; rfl) (by simp) (by omega) (by omega)
    have c1:Ji7 [some (encH false n bs)] [] = some (((List.range n).map (Jfp bs)).map encS,[]) := by
      unfold Ji7 Jcg
      rw [e]
      simp only [Option.bind_some]
      rw [Jzz (by simp) n (fun i => encS (Jfp bs i)) (by omega)]
      · rw [List.map_map]; rfl
      · intro i hi'
        refine ⟨_,Jct _ _ _,?_⟩
        have ha := Jwv (m := false) (w := i) (fun b hb' => by rw [(g.box b hb').1]; exact hi') (by omega) hb
        simp [Jad,Jbc,Jap,Jaj,Jae,capE,Jca,oIx,VS.listOf,Jax,den,denL,age,ageL,Ja2,Jav,List.replicate_succ,-List.map_map,-Option.map_bind,encH,ha]
    have hd:∀ S:Store,denL 0 S (((List.range n).map (Jfp bs)).map encS) = some (((List.range n).map (Jfp bs)).map encS) := fun S => Jbn 0 S (Jbr (Jfm _ fun p _ => Jd0 p))
    unfold Jsa
    rw [if_neg hb]
    simp only [encO,encB]
    have s1:(sExp (Jam Jbm (Jab (eVar 0) aNil))) [some (encH false n bs)] [] = some (.nx,[some (encH false n bs)],[]) := by simp [Jff,Jad,Jaj,Jae,Jca,denL,ageL,Jav,-List.map_map,-Option.map_bind,h1]
    have s2:(sIf (tVal (eOp (oEq false) (eCB bLen (Jab (eOp oIx (eVar 0) (eC (.int 1))) aNil)) (eC (.int 0)))) (sRet (eC .non)) sNil) [some (encH false n bs)] [] = some (.nx,[some (encH false n bs)],[]) := by
      simp [Ja0,Jb9,Jbe,Jad,Jbc,Jap,Jaj,Jae,Jbv,Jaw,oEq,oIx,bLen,VS.listOf,Jax,-List.map_map,-Option.map_bind,encH,hl]
      exact hb
    have run:Jiw [some (encH false n bs)] [] = some (.ret (.tup (((List.range n).map (Jfp bs)).map encS)),[some (encH false n bs)],[]) := by
      unfold Jiw
      rw [Jbd s1,Jbd s2]
      simp [Ja0,Jaj,Jae,Jbv,Ja3,bTup,VS.listOf,Jax,-List.map_map,-Option.map_bind,c1]
    unfold Jcx
    rw [Jck]
    simp only [List.length_cons,List.length_nil,List.map_cons,List.map_nil,Nat.reduceAdd,Nat.reduceSub,List.replicate_succ,List.replicate_zero,List.cons_append,List.nil_append,if_true]
    rw [run]
    simp only [Option.bind_some,den,hd,Option.map_some]
end W06
end
section
set_option Elab.async false
set_option maxRecDepth 10000
set_option linter.all false
set_option maxHeartbeats 4000000
namespace W06
open PySem L2 VS
def encT (s:List Int):D := .tup (s.map D.int)
def in1 (p:St2) (i:Int):Bool := decide (p.1 ≤ i) && decide (i < p.2)
def Jbt (b:List St2) (s:List Int):Bool := (b.zip s).all fun q => in1 q.1 q.2
theorem Jn1 (s:List Int):Jdl (encT s) = true := by simp [encT,Jdl]
theorem Jfg (s:List Int):Ja2 (encT s) = true := Je2 (Jn1 s)
@[simp] theorem JC5 (s:List Int):age (encT s) = encT s := Jiu (Jn1 s)
@[simp] theorem Jwn (k:Nat) (S:Store) (s:List Int):den k S (encT s) = some (encT s) := Jhk k S (Jfg s)
theorem Jkc:∀ s:List Int,toPL (s.map D.int) = some (s.map PyData.int)
  | [] => by rw [List.map_nil,toPL]; rfl
  | i :: r => by rw [List.map_cons,toPL,toP,Jkc r]; rfl
theorem Jsi (S:Store) (s:List Int):seeP S (encT s) = some (.tuple (s.map PyData.int)) := by
  rw [seeP,Jwn]
  show toP (encT s) = _
  rw [encT,toP,Jkc]; rfl
theorem Jpv:∀ (b:List St2) (s:List Int),zipD (b.map encS) (s.map D.int) = (b.zip s).map fun q => .tup [encS q.1,.int q.2]
  | [],_ => by simp [zipD]
  | _ :: _,[] => by simp [zipD]
  | p :: a,q :: b => by simp [zipD,Jpv a b]
theorem Jzp (b:List St2) (s:List Int) (hl:b.length ≤ 3):Jmk [some (encB b),some (encT s)] [] = some ((b.zip s).map (fun q => D.bl (in1 q.1 q.2)),[]) := by
  have e:Jrw (Jab (eVar 0) (Jab (eVar 1) aNil)) [some (encB b),some (encT s)] [] = some (((b.zip s).map fun q => .tup [encS q.1,.int q.2],[]),[]) := by
    rw [← Jpv]; simp [Jad,Jaj,Jae,VS.listOf,VS.idOf,Jqz,-List.map_map,-Option.map_bind,encB,encT]
  unfold Jmk Jcg
  rw [e]
  simp only [Option.bind_some]
  exact Jez (by simp) _ _ _ (by simp; omega) fun q hq => ⟨_,by simp [capE,Jct,Jf7,Jdv,Jc5,List.replicate_succ,-List.map_map,-Option.map_bind]; rfl,by
    by_cases h:q.1.1 ≤ q.2 <;> simp [Jad,Jbc,Jap,Jn9,oI,yes2,oLt,oLe,oIx,VS.listOf,Jax,-List.map_map,-Option.map_bind,encS,in1,h]⟩
theorem Jwi (b:List St2) (s:List Int) (hl:b.length ≤ 3):Jf3 [encB b,encT s] = some (.bl (Jbt b s)) := by
  have c := Jzp b s hl
  have hb:bAll.boolsOf ((b.zip s).map fun q => D.bl (in1 q.1 q.2)) = some ((b.zip s).map fun q => in1 q.1 q.2) := by
    have := Jii ((b.zip s).map fun q => in1 q.1 q.2)
    rw [List.map_map] at this
    exact this
  have he:((b.zip s).map fun q => in1 q.1 q.2).all id = Jbt b s := by rw [List.all_map]; rfl
  simp only [Jf3,Jtv,Ja0,Jbv,Jae,Jaj,Ja3,Jck,List.length_cons,List.length_nil,List.map_cons,List.map_nil,Nat.reduceAdd,Nat.reduceSub,List.replicate_zero,List.cons_append,List.nil_append,if_true,c,Option.bind_some,bAll,VS.listOf,hb,Option.map_some,he,den]
theorem Jnn {n:Nat} {bs:List (List St2)} {s:List Int} (hs:s.length = n) (hn:n ≤ 3):Jdb [encH false n bs,encT s] = some .non := by
  have c:Jg8 [some (encH false n bs),some (encT s)] [] = some (s.map (fun _ => D.bl true),[]) := by
    unfold Jg8 Jcg
    have e:iSeq (eVar 1) [some (encH false n bs),some (encT s)] [] = some ((s.map D.int,[]),[]) := by simp [Jad,VS.listOf,Jax,VS.idOf,Jcz,-List.map_map,-Option.map_bind,encT]
    rw [e]
    simp only [Option.bind_some]
    exact Jez (by simp) _ _ _ (by omega) fun i hi => ⟨_,Jct _ _ _,by have := Jfy i; simp [Jad,Jaj,Jae,capE,Jca,den,denL,age,ageL,Ja2,Jav,List.replicate_succ,-List.map_map,-Option.map_bind,this]⟩
  have h := Jsi [] s
  have hlen:bLen [] [encT s] = some (.int n) := by simp [bLen,encT,Jax,hs]
  simp [Jdb,Jks,Jb9,Jbe,Jg1,Jg2,Jaw,Jbv,Jae,Jaj,Jad,Jbc,Jap,Ja3,Jck,h,hlen,oEq,oIx,encH,Jax]
  unfold encH at c
  simp [c,bAll,VS.listOf,Jjl,encH]
theorem Jq3:∀ (bs:List (List St2)) (k:Nat),Jj3 k (bs.map encB) = (bs.zipIdx k).map fun q => .tup [.int q.2,encB q.1]
  | [],k => by simp [Jj3]
  | b :: r,k => by simp [Jj3,Jq3 r (k + 1)]
def atN (bs:List (List St2)) (s:List Int):List Nat := ((bs.zipIdx).filter fun q => Jbt q.1 s).map fun q => q.2
theorem Jfo {n:Nat} {bs:List (List St2)} (g:Good n bs) {s:List Int} (hs:s.length = n):Jay [encH false n bs,encT s] = some (.lst true ((atN bs s).map fun (i:Nat) => D.int i)) := by
  have few := g.few
  have n3 := g.n3
  have h1 := Jfs (m := false) g
  have h2 := Jnn (bs := bs) hs (by omega)
  have e:Jq0 (Jab (eOp oIx (eVar 0) (eC (.int 1))) aNil) [some (encH false n bs),some (encT s)] [] = some (((bs.zipIdx).map fun q => .tup [.int q.2,encB q.1],[]),[]) := by
    rw [← Jq3 bs 0]; simp [Jad,Jbc,Jap,Jaj,Jae,oIx,VS.listOf,Jax,VS.idOf,Jts,-List.map_map,-Option.map_bind,encH]
  have c:Jif [some (encH false n bs),some (encT s)] [] = some ((atN bs s).map (fun (i:Nat) => D.int i),[]) := by
    unfold Jif Jcg
    rw [e]
    simp only [Option.bind_some]
    rw [Jms (by simp) (fun (q:List St2 × Nat) => D.tup [.int q.2,encB q.1]) (fun q => Jbt q.1 s) (fun q => .int q.2) _ _ (by simp; omega)]
    · simp [atN]
    · intro q hq
      have hb:q.1 ∈ bs := by
        obtain ⟨i,hi,e⟩ := List.mem_iff_getElem.mp hq
        rw [← e,List.getElem_zipIdx]
        exact List.getElem_mem _
      have h3 := Jwi q.1 s (by rw [(g.box q.1 hb).1]; omega)
      exact ⟨_,by simp [capE,Jct,Jf7,Jdv,Jc5,List.replicate_succ,-List.map_map,-Option.map_bind]; rfl,by simp [Jad,Jaj,Jae,Jaw,Jca,denL,ageL,Jav,-List.map_map,-Option.map_bind,h3,Jfg],fun _ => by simp [Jad,-List.map_map,-Option.map_bind]⟩
  have hd:denL 0 [] ((atN bs s).map fun (i:Nat) => D.int i) = some ((atN bs s).map fun (i:Nat) => D.int i) := by
    have := Jbn 0 [] (Jeu ((atN bs s).map fun (i:Nat) => (i:Int)))
    rw [List.map_map] at this
    exact this
  have s1:(sExp (Jam Jbm (Jab (eVar 0) aNil))) [some (encH false n bs),some (encT s)] [] = some (.nx,[some (encH false n bs),some (encT s)],[]) := by simp [Jff,Jad,Jaj,Jae,Jca,denL,ageL,Jav,-List.map_map,-Option.map_bind,h1]
  have s2:(sExp (Jam Jdb (Jab (eVar 0) (Jab (eVar 1) aNil)))) [some (encH false n bs),some (encT s)] [] = some (.nx,[some (encH false n bs),some (encT s)],[]) := by simp [Jff,Jad,Jaj,Jae,Jca,denL,ageL,Jav,-List.map_map,-Option.map_bind,h2,Jfg]
  unfold Jay
  rw [Jck]
  simp only [List.length_cons,List.length_nil,List.map_cons,List.map_nil,Nat.reduceAdd,Nat.reduceSub,List.replicate_succ,List.replicate_zero,List.cons_append,List.nil_append,if_true]
  unfold Jlo
  rw [Jbd s1,Jbd s2]
  simp [Ja0,Ja3,c,den,hd]
theorem Jz5 {bs:List (List St2)} {s:List Int} {i:Nat} {b:List St2} (h:bs[i]? = some b):i ∈ atN bs s ↔ Jbt b s = true := by
  unfold atN
  rw [List.mem_map]
  constructor
  · rintro ⟨q,hq,rfl⟩
    obtain ⟨h1,h2⟩ := List.mem_filter.mp hq
    have := List.mem_zipIdx_iff_getElem?.mp h1
    rw [h] at this
    cases this
    exact h2
  · intro hb
    exact ⟨(b,i),List.mem_filter.mpr ⟨List.mem_zipIdx_iff_getElem?.mpr h,hb⟩,rfl⟩
theorem Jnx {n:Nat} {bs:List (List St2)} (g:Good n bs) {s:List Int} (hs:s.length = n):Jcj [encH false n bs,encT s] = some (.int (atN bs s).length) := by
  have h := Jfo g hs
  simp [Jcj,Jkw,Ja0,Jad,Jaj,Jae,Jbv,Jca,bLen,VS.listOf,Jax,Jck,den,denL,ageL,Jav,-List.map_map,-Option.map_bind,h,Jfg]
def Jds (b:List St2):Int := b.foldl (fun z p => z * (p.2 - p.1)) 1
theorem Jpp (b:List St2) (hb:∀ p ∈ b,p.1 < p.2 ∧ -1000000000 ≤ p.1 ∧ p.2 ≤ 1000000000):Jd8 [encB b] = some (.int (Jds b)) := by
  have e:iSeq (eVar 0) [some (encB b),some (.int 1),none,none] [] = some ((b.map encS,[]),[]) := by simp [Jad,VS.listOf,Jax,VS.idOf,Jcz,-List.map_map,-Option.map_bind,encB]
  obtain ⟨env',S',e2,hS,z2,z3,he⟩ := Jft (w := []) (g := Pat.sem (.tp [(.nm 2),(.nm 3)])) (b := Jih) (ds := b.map encS) (env := [some (encB b),some (.int 1),none,none]) (S := [])
    (fun i env S => S = [] ∧ ∃ z2 z3,env = [some (encB b),some (.int (Jds (b.take i))),z2,z3]) ⟨rfl,none,none,by rw [List.take_zero]; rfl⟩ (fun i env S _ => by simp) (fun i d env S hd ⟨hS,z2,z3,he⟩ => by
      rw [List.getElem?_map] at hd
      obtain ⟨p,hp,rfl⟩ := Option.map_eq_some_iff.mp hd
      subst hS he
      have hm:-18446744073709551616 < p.2 - p.1 ∧ p.2 - p.1 < 18446744073709551616 := by have := hb p (List.mem_of_getElem? hp); omega
      refine ⟨[some (encB b),some (.int (Jds (b.take i))),some (.int p.1),some (.int p.2)],by simp [Jct,Jf7,Jdv,Jc5,-List.map_map,-Option.map_bind,encS],[some (encB b),some (.int (Jds (b.take i) * (p.2 - p.1))),some (.int p.1),some (.int p.2)],[],by simp [Jih,Jau,Jad,Jap,oI,yes2,cMul,oSub,oMul,VS.listOf,-List.map_map,-Option.map_bind,hm],rfl,some (.int p.1),some (.int p.2),?_⟩
      rw [List.take_succ,hp,Jds,Jds,Option.toList_some,List.foldl_append]
      rfl)
  subst hS he
  have hlen:(b.map encS).length = b.length := by simp
  rw [hlen,List.take_length] at e2
  have s1:(sSet 1 (eC (.int 1))) [some (encB b),none,none,none] [] = some (.nx,[some (encB b),some (.int 1),none,none],[]) := by simp [Jau,Jbc,-List.map_map,-Option.map_bind]
  have l1:Jig [some (encB b),some (.int 1),none,none] [] = some (.nx,[some (encB b),some (.int (Jds b)),z2,z3],[]) := by
    unfold Jig
    rw [Jfz,e]
    exact e2
  unfold Jd8
  rw [Jck]
  simp only [List.length_cons,List.length_nil,List.map_cons,List.map_nil,Nat.reduceAdd,Nat.reduceSub,List.replicate_succ,List.replicate_zero,List.cons_append,List.nil_append,if_true]
  unfold Jlp
  rw [Jbd s1,Jbd l1]
  simp [Ja0,Jad,den,-List.map_map,-Option.map_bind]
theorem Jf1 {n:Nat} {bs:List (List St2)} (g:Good n bs) {i:Nat} {b:List St2} (hi:bs[i]? = some b):Jba [encH false n bs,.int i] = some (.int (Jds b)) := by
  have h1 := Jfs (m := false) g
  have h2 := Jh6 (n := n) hi
  have h0 := (g.box b (List.mem_of_getElem? hi)).1
  have n3 := g.n3
  have h3 := Jpp b (g.box b (List.mem_of_getElem? hi)).2
  simp [Jba,Jn2,Jbu,Ja0,Jff,Jad,Jaj,Jae,Jca,Jck,den,denL,age,ageL,Ja2,Jav,-List.map_map,-Option.map_bind,h1,h2,h3]
end W06
end
section
set_option Elab.async false
set_option maxRecDepth 10000
set_option linter.all false
set_option maxHeartbeats 4000000
namespace W06
open PySem L2 VS
theorem Jy2 (i j:Int):mx i j = mx j i := by unfold mx; split <;> split <;> omega
theorem Jy8 (i j:Int):mn i j = mn j i := by unfold mn; split <;> split <;> omega
theorem Ji3:∀ a b:List St2,comL a b = comL b a
  | [],[] => rfl
  | [],_ :: _ => by simp [comL]
  | _ :: _,[] => by simp [comL]
  | p :: a,q :: b => by simp only [comL]; rw [Ji3 a b,Jy2,Jy8]
theorem Jt5 (a b:List St2):comO a b = comO b a := by unfold comO; rw [Ji3]
theorem Joc:∀ a:List St2,comL a a = a
  | [] => rfl
  | p :: a => by
    have h1:mx p.1 p.1 = p.1 := by unfold mx; split <;> rfl
    have h2:mn p.2 p.2 = p.2 := by unfold mn; split <;> rfl
    simp only [comL,Joc a,h1,h2]
theorem Js3 {b:List St2} (h:∀ p ∈ b,p.1 < p.2):okL b = true := List.all_eq_true.mpr fun p hp => decide_eq_true (h p hp)
theorem Jt4 {b:List St2} (h:∀ p ∈ b,p.1 < p.2):comO b b = some b := by unfold comO; rw [Joc,if_pos (Js3 h)]
theorem Jnz:∀ (a b:List St2) (s:List Int),a.length = b.length → Jbt (comL a b) s = (Jbt a s && Jbt b s)
  | [],[],s,_ => rfl
  | p :: a,q :: b,[],_ => by simp [Jbt]
  | p :: a,q :: b,i :: s,h => by
    have ih := Jnz a b s (by simpa using h)
    unfold Jbt at ih ⊢
    simp only [comL,List.zip_cons_cons,List.all_cons]
    rw [ih]
    have e:in1 (mx p.1 q.1,mn p.2 q.2) i = (in1 p i && in1 q i) := by
      rw [Bool.eq_iff_iff]
      unfold in1 mx mn
      simp only [Bool.and_eq_true,decide_eq_true_eq]
      constructor
      · split <;> split <;> intro h <;> omega
      · split <;> split <;> intro h <;> omega
    rw [e]
    cases in1 p i <;> cases in1 q i <;> simp
theorem Jny:∀ (b:List St2) (s:List Int),b.length = s.length → Jbt b s = true → okL b = true
  | [],_,_,_ => rfl
  | p :: b,[],h,_ => by simp at h
  | p :: b,i :: s,h,hh => by
    unfold Jbt at hh
    simp only [List.zip_cons_cons,List.all_cons,Bool.and_eq_true] at hh
    have ih := Jny b s (by simpa using h) hh.2
    unfold okL at ih ⊢
    rw [List.all_cons,ih]
    have:p.1 < p.2 := by
      have := hh.1
      unfold in1 at this
      simp only [Bool.and_eq_true,decide_eq_true_eq] at this
      omega
    simp [this]
theorem Jre (b:List St2):∀ z:Int,b.foldl (fun z p => z * (p.2 - p.1)) z = z * Jds b := by
  unfold Jds
  induction b with
  | nil => intro z; simp
  | cons p r ih =>
    intro z
    rw [List.foldl_cons,List.foldl_cons,ih,ih (1 * (p.2 - p.1)),Int.one_mul,Int.mul_assoc]
theorem Ji9 (p:St2) (b:List St2):Jds (p :: b) = (p.2 - p.1) * Jds b := by
  rw [Jds,List.foldl_cons,Jre,Int.one_mul]
theorem Jke:∀ {b:List St2},okL b = true → 1 ≤ Jds b
  | [],_ => by decide
  | p :: b,h => by
    unfold okL at h
    rw [List.all_cons,Bool.and_eq_true] at h
    have h1 := Jke (b := b) h.2
    have h2 := of_decide_eq_true h.1
    rw [Ji9]
    have h3:0 < (p.2 - p.1) * Jds b := Int.mul_pos (by omega) (by omega)
    omega
theorem Jl1:∀ (a b:List St2),a.length = b.length → okL (comL a b) = true → Jds (comL a b) ≤ Jds a
  | [],[],_,_ => Int.le_refl _
  | p :: a,q :: b,hl,h => by
    simp only [comL] at h ⊢
    unfold okL at h
    rw [List.all_cons,Bool.and_eq_true] at h
    have ih := Jl1 a b (by simpa using hl) h.2
    have h1 := Jke (b := comL a b) h.2
    have h2 := of_decide_eq_true h.1
    dsimp only at h2
    rw [Ji9,Ji9]
    have e:mn p.2 q.2 - mx p.1 q.1 ≤ p.2 - p.1 := by unfold mx mn; split <;> split <;> omega
    exact Int.le_trans (Int.mul_le_mul_of_nonneg_right e (by omega)) (Int.mul_le_mul_of_nonneg_left ih (by omega))
theorem Jt6 {a b:List St2} (hl:a.length = b.length):(comL a b).length = a.length := by rw [Jmt]; simp; omega
theorem Jq5:∀ (a b:List St2),(∀ p ∈ a,-1000000000 ≤ p.1 ∧ p.2 ≤ 1000000000) → ∀ p ∈ comL a b,-1000000000 ≤ p.1 ∧ p.2 ≤ 1000000000
  | [],_,_,p,hp => by simp [comL] at hp
  | _ :: _,[],_,p,hp => by simp [comL] at hp
  | x :: a,y :: b,h,p,hp => by
    simp only [comL,List.mem_cons] at hp
    rcases hp with rfl | hp
    · have := h x List.mem_cons_self
      unfold mx mn
      constructor
      · dsimp only; split <;> omega
      · dsimp only; split <;> omega
    · exact Jq5 a b (fun q hq => h q (List.mem_cons_of_mem _ hq)) p hp
theorem Joa:∀ (a b:List St2),a.length = b.length → (∀ (i:Nat) (p q:St2),a[i]? = some p → b[i]? = some q → q.1 ≤ p.1 ∧ p.2 ≤ q.2) → comL a b = a
  | [],[],_,_ => rfl
  | p :: a,q :: b,hl,h => by
    have h0 := h 0 p q rfl rfl
    have ih := Joa a b (by simpa using hl) fun i p' q' h1 h2 => h (i + 1) p' q' (by simpa using h1) (by simpa using h2)
    have e1:mx p.1 q.1 = p.1 := by unfold mx; split <;> omega
    have e2:mn p.2 q.2 = p.2 := by unfold mn; split <;> omega
    simp only [comL,ih,e1,e2]
theorem Jpr (s:List Int):∀ (bs:List (List St2)) (k:Nat),((bs.zipIdx k).filter fun q => Jbt q.1 s).map (fun q => q.2) = (atN bs s).map (· + k)
  | [],k => by simp [atN]
  | b :: r,k => by
    have h1 := Jpr s r (k + 1)
    have h2 := Jpr s r 1
    unfold atN
    rw [List.zipIdx_cons,List.zipIdx_cons,List.filter_cons,List.filter_cons]
    split
    · simp only [List.map_cons,h1,h2,List.map_map]
      simp [Function.comp_def,Nat.add_comm,Nat.add_left_comm]
    · rw [h1,h2,List.map_map]
      simp [Function.comp_def,Nat.add_comm,Nat.add_left_comm]
theorem Jhq (b:List St2) (r:List (List St2)) (s:List Int):atN (b :: r) s = (if Jbt b s = true then [0] else []) ++ (atN r s).map (· + 1) := by
  have h := Jpr s r 1
  unfold atN at h ⊢
  rw [List.zipIdx_cons,List.filter_cons]
  split
  · simp [h]
  · simp [h]
theorem Juf (s:List Int):∀ (a r:List (List St2)),atN (a ++ r) s = atN a s ++ (atN r s).map (· + a.length)
  | [],r => by simp [atN]
  | b :: a,r => by
    rw [List.cons_append,Jhq,Jhq,Juf s a r]
    simp [Function.comp_def]
    intro i _
    omega
theorem JCn {bs:List (List St2)} {s:List Int} {i:Nat} (h:i ∈ atN bs s):i < bs.length := by
  unfold atN at h
  obtain ⟨q,hq,rfl⟩ := List.mem_map.mp h
  have := List.mem_zipIdx_iff_getElem?.mp (List.mem_filter.mp hq).1
  exact (List.getElem?_eq_some_iff.mp this).1
theorem Jue (s:List Int):∀ (bs:List (List St2)),atN bs.reverse s = (atN bs s).reverse.map fun i => bs.length - 1 - i
  | [] => by simp [atN]
  | b :: r => by
    have ih := Jue s r
    rw [List.reverse_cons,Juf,ih,Jhq,Jhq]
    have e:((atN r s).map (· + 1)).reverse.map (fun i => (b :: r).length - 1 - i) = (atN r s).reverse.map fun i => r.length - 1 - i := by
      rw [← List.map_reverse,List.map_map]
      refine List.map_congr_left fun i hi => ?_
      simp
      omega
    rw [List.reverse_append]
    simp only [List.map_append]
    rw [e]
    by_cases h:Jbt b s = true
    · simp [h,atN]
    · simp [h,atN]
end W06
end
section
set_option Elab.async false
set_option maxRecDepth 10000
set_option linter.all false
set_option maxHeartbeats 4000000
namespace W06
open PySem L2 VS
theorem Jjf:∀ (b:List St2) (s:List Int),Jbt b s = true ↔ ∀ (j:Nat) (p:St2) (x:Int),b[j]? = some p → s[j]? = some x → in1 p x = true
  | [],_ => by simp [Jbt]
  | _ :: _,[] => by simp [Jbt]
  | p :: b,i :: s => by
    have ih := Jjf b s
    unfold Jbt at ih ⊢
    rw [List.zip_cons_cons,List.all_cons,Bool.and_eq_true,ih]
    constructor
    · rintro ⟨h0,h1⟩ j q x hq hx
      cases j with
      | zero => simp at hq hx; subst hq hx; exact h0
      | succ j => exact h1 j q x (by simpa using hq) (by simpa using hx)
    · intro h
      exact ⟨h 0 p i rfl rfl,fun j q x hq hx => h (j + 1) q x (by simpa using hq) (by simpa using hx)⟩
theorem Jvr (b:List St2) (s:List Int) (i:Nat) (p:St2) (x:Int) (hp:b[i]? = some p) (hx:s[i]? = some x) :
    Jec [some (encB b),some (encT s),some (.int i)] [] = if in1 p x = true then some (.nx,[some (encB b),some (encT s),some (.int i)],[]) else some (.ret (.bl false),[some (encB b),some (encT s),some (.int i)],[]) := by
  have h1:atI (b.map encS) (i:Int) = some (.tup [.int p.1,.int p.2]) := Jgv (by rw [List.getElem?_map,hp]; rfl)
  have h2:atI (s.map D.int) (i:Int) = some (.int x) := Jgv (by rw [List.getElem?_map,hx]; rfl)
  generalize (i:Int) = k at *
  by_cases g1:x < p.1
  · have:in1 p x = false := by unfold in1; simp; omega
    rw [this]
    simp [Jec,Ja0,Jb9,Jbe,Jad,Jbc,Jap,Jaw,Jg1,oI,yes2,oLt,oGe,oIx,VS.listOf,Jax,-List.map_map,-Option.map_bind,encB,encT,h1,h2,g1]
  · by_cases g2:p.2 ≤ x
    · have:in1 p x = false := by unfold in1; simp; omega
      rw [this]
      simp [Jec,Ja0,Jb9,Jbe,Jad,Jbc,Jap,Jaw,Jg1,oI,yes2,oLt,oGe,oIx,VS.listOf,Jax,-List.map_map,-Option.map_bind,encB,encT,h1,h2,g1,g2]
    · have:in1 p x = true := by unfold in1; simp; omega
      rw [this]
      simp [Jec,Ja0,Jb9,Jbe,Jad,Jbc,Jap,Jaw,Jg1,oI,yes2,oLt,oGe,oIx,VS.listOf,Jax,-List.map_map,-Option.map_bind,encB,encT,h1,h2,g1,g2]
theorem Jte (b:List St2) (s:List Int) (hl:b.length ≤ 3) (hs:s.length = b.length):Jci [encB b,encT s] = some (.bl (Jbt b s)) := by
  have e:Jc0 (Jab (eCB bLen (Jab (eVar 0) aNil)) aNil) [some (encB b),some (encT s),none] [] = some ((upD 0 b.length,[]),[]) := Jio _ (by simp [Jad,Jaj,Jae,Jbv,bLen,VS.listOf,Jax,-List.map_map,-Option.map_bind,encB]; rfl) (by simp) (by omega) (by omega)
  have lp := Jtc (w := []) (g := Pat.sem (.nm 2)) (b := Jec) (ds := upD 0 b.length) (env := [some (encB b),some (encT s),none]) (S := [])
    (fun i env S => S = [] ∧ (∃ z2,env = [some (encB b),some (encT s),z2]) ∧ ∀ (j:Nat) (p:St2) (x:Int),j < i → b[j]? = some p → s[j]? = some x → in1 p x = true) (fun r S => S = [] ∧ r = .bl false ∧ Jbt b s = false)
    ⟨rfl,⟨none,rfl⟩,fun j p x h => by omega⟩ (fun i env S _ => by simp) (fun i d env S hd ⟨hS,⟨z2,he⟩,hk⟩ => by
      obtain ⟨hi,rfl⟩ := Jhx hd
      subst hS he
      rw [Int.zero_add]
      obtain ⟨p,hp⟩:∃ p,b[i]? = some p := ⟨_,List.getElem?_eq_getElem hi⟩
      obtain ⟨x,hx⟩:∃ x,s[i]? = some x := ⟨_,List.getElem?_eq_getElem (by omega)⟩
      have hb := Jvr b s i p x hp hx
      refine ⟨[some (encB b),some (encT s),some (.int i)],Jct _ _ _,?_⟩
      rw [hb]
      by_cases h:in1 p x = true
      · rw [if_pos h]
        refine .inl ⟨_,_,.inl rfl,rfl,⟨_,rfl⟩,fun j p' x' hj h1 h2 => ?_⟩
        by_cases hji:j = i
        · subst hji
          rw [hp] at h1; rw [hx] at h2
          cases h1; cases h2
          exact h
        · exact hk j p' x' (by omega) h1 h2
      · rw [if_neg h]
        refine .inr ⟨_,_,_,rfl,rfl,rfl,?_⟩
        cases hc:Jbt b s with
        | false => rfl
        | true => exact absurd ((Jjf b s).mp hc i p x hp hx) h)
  unfold Jci
  rw [Jck]
  simp only [List.length_cons,List.length_nil,List.map_cons,List.map_nil,Nat.reduceAdd,Nat.reduceSub,List.replicate_succ,List.replicate_zero,List.cons_append,List.nil_append,if_true]
  unfold Jkv
  rcases lp with ⟨env',S',e2,hS,⟨z2,he⟩,hk⟩ | ⟨r,env',S',e2,hS,hr,hk⟩
  · subst hS he
    have l1:Je1 [some (encB b),some (encT s),none] [] = some (.nx,[some (encB b),some (encT s),z2],[]) := by
      unfold Je1
      rw [Jfz,e]
      exact e2
    rw [Jbd l1,(Jjf b s).mpr fun j p x h1 h2 => hk j p x (by rw [Ji6]; exact (List.getElem?_eq_some_iff.mp h1).1) h1 h2]
    simp [Ja0,Jbc,den,-List.map_map,-Option.map_bind]
  · subst hS hr
    have l1:Je1 [some (encB b),some (encT s),none] [] = some (.ret (.bl false),env',[]) := by
      unfold Je1
      rw [Jfz,e]
      exact e2
    rw [Jot l1,hk]
    simp [den,-List.map_map,-Option.map_bind]
theorem Jx5 (x y:Int) (n:Nat) (hn:n ≤ 3) (d1:Option D) (d3 d4 d5 d6 d7:Option D):∃ (ns:List Int) (x' y':Int),Jd6 [some (.ref 0),d1,some (.int n),d3,d4,d5,d6,d7] [some [.int x,.int y]] = some (ns.map .int,[some [.int x',.int y']]) ∧ ns.length = n := by
  have e:Jc0 (Jab (eVar 2) aNil) [some (.ref 0),d1,some (.int n),d3,d4,d5,d6,d7] [some [.int x,.int y]] = some ((upD 0 n,[]),[some [.int x,.int y]]) :=
    Jio _ (by simp [Jad,Jaj,Jae,-List.map_map,-Option.map_bind]; rfl) (by simp) (by omega) (by omega)
  unfold Jd6 Jcg
  rw [e]
  simp only [Option.bind_some]
  obtain ⟨ys,S',e2,⟨ns,x',y',rfl,rfl,hl⟩⟩ := Jka (w := []) (e0 := capE 1 [0] [some (.ref 0),d1,some (.int n),d3,d4,d5,d6,d7]) (g := Pat.sem (.nm 0)) (ds := upD 0 n) (S := [some [.int x,.int y]])
    (f := (eOp oSub (Ja4 Jah (Jab (eVar 1) (Jab (eOp oAdd (eOp oMul (eC (.int 2)) (eOp oPow (eC (.int 10)) (eC (.int 9)))) (eC (.int 1))) aNil))) (eOp oPow (eC (.int 10)) (eC (.int 9)))))
    (fun i ys S => ∃ (ns:List Int) (x' y':Int),ys = ns.map D.int ∧ S = [some [.int x',.int y']] ∧ ns.length = min i n)
    ⟨[],x,y,rfl,rfl,by simp⟩ (fun i ys S ⟨ns,x',y',h1,h2,h3⟩ => ⟨by simp,by rw [h1,List.length_map,h3]; omega⟩)
    (fun i d ys S hd ⟨ns,x',y',h1,h2,h3⟩ => by
      obtain ⟨hi,rfl⟩ := Jhx hd
      obtain ⟨r,x2,y2,e3,r0,r1⟩ := Jcu x' y' 2000000001 (by decide) (by decide)
      subst h1 h2
      refine ⟨_,.int (r - 1000000000),[some [.int x2,.int y2]],rfl,?_,ns ++ [r - 1000000000],x2,y2,by simp,rfl,by simp; omega⟩
      simp [Jad,Jbc,Jap,Jaj,Jae,capE,Ja6,oI,yes2,cMul,cPow,oAdd,oSub,oMul,oPow,VS.listOf,intsOf,den,denL,age,ageL,Ja2,Jav,List.replicate_succ,-List.map_map,-Option.map_bind,e3])
  rw [Ji6] at hl
  exact ⟨ns,x',y',e2,by omega⟩
theorem JAl (x y:Int) (ns:List Int) (p:St2) (d1 d2 d3 d4:Option D) (hl:ns.length ≤ 3):∃ (z:Int) (x' y':Int),Jgn [some (.ref 0),d1,d2,d3,d4,some (.ref 1),some (.int p.1),some (.int p.2)] [some [.int x,.int y],some (ns.map .int)] = some (.nx,[some (.ref 0),d1,d2,d3,d4,some (.ref 1),some (.int p.1),some (.int p.2)],[some [.int x',.int y'],some ((ns ++ [z]).map .int)]) := by
  obtain ⟨r,x2,y2,e3,r0,r1⟩ := Jcu x y 6 (by decide) (by decide)
  obtain ⟨z,hz⟩:∃ z,atI [D.int p.1,.int (p.2 - 1),.int p.2,.int (p.1 - 1),.int ((p.1 + p.2) / 2),.int p.1] r = some (.int z) := by
    have:r = 0 ∨ r = 1 ∨ r = 2 ∨ r = 3 ∨ r = 4 ∨ r = 5 := by omega
    rcases this with rfl | rfl | rfl | rfl | rfl | rfl
    · exact ⟨_,rfl⟩
    · exact ⟨_,rfl⟩
    · exact ⟨_,rfl⟩
    · exact ⟨_,rfl⟩
    · exact ⟨_,rfl⟩
    · exact ⟨_,rfl⟩
  have hl2:ns.length < 1000000 := by omega
  refine ⟨z,x2,y2,?_⟩
  simp [Jgn,Jff,Jad,Jbc,Jap,Jaj,Jae,Ja3,Ja6,Jiz,oI,yes2,cDiv,oAdd,oSub,oDiv,oIx,VS.listOf,Jax,Je3,intsOf,den,denL,age,ageL,Ja2,Jav,-List.map_map,-Option.map_bind,e3,hz,hl2]
theorem Jx4 (x y:Int) {n:Nat} {bs:List (List St2)} (g:Good n bs):∃ (s:List Int) (x' y':Int),Jcv [x,y] [encH false n bs] = some (encT s,[x',y']) ∧ s.length = n := by
  have few := g.few
  have n3 := g.n3
  have hq:∀ S:Store,eqP false S (.lst false (bs.map encB)) (.lst true []) = some (.bl (bs.map pB).isEmpty) := fun S => by
    have := Jtw (neg := false) (S := S) (m := true) 3 (Jhj S false bs) (Jnr 0 bs) (by decide)
    simpa using this
  have s1:(sAsg (eVar 1) (Pat.sem (.tp [(.nm 2),(.nm 3)]))) [some (.ref 0),some (encH false n bs),none,none,none,none,none,none] [some [.int x,.int y]] = some (.nx,[some (.ref 0),some (encH false n bs),some (.int n),some (.lst false (bs.map encB)),none,none,none,none],[some [.int x,.int y]]) := by
    simp [Jh3,Jad,Jct,Jf7,Jdv,Jc5,-List.map_map,-Option.map_bind,encH]
  unfold Jcv
  rw [Jdd]
  simp only [List.length_cons,List.length_nil,List.map_cons,List.map_nil,Nat.reduceAdd,Nat.reduceSub,List.replicate_succ,List.replicate_zero,List.cons_append,List.nil_append,if_true]
  unfold Jll
  rw [Jbd s1]
  have any:∀ x1 y1,∃ (s:List Int) (x' y':Int),(sRet (eCB bTup (Jab (eFrz Jd6) aNil))) [some (.ref 0),some (encH false n bs),some (.int n),some (.lst false (bs.map encB)),none,none,none,none] [some [.int x1,.int y1]] = some (.ret (encT s),[some (.ref 0),some (encH false n bs),some (.int n),some (.lst false (bs.map encB)),none,none,none,none],[some [.int x',.int y']]) ∧ s.length = n := fun x1 y1 => by
    obtain ⟨ns,x',y',e,hl⟩ := Jx5 x1 y1 n (by omega) (some (encH false n bs)) (some (.lst false (bs.map encB))) none none none none
    exact ⟨ns,x',y',by simp [Ja0,Jaj,Jae,Jbv,Ja3,bTup,VS.listOf,Jax,-List.map_map,-Option.map_bind,e,encT],hl⟩
  by_cases hb:bs = []
  · obtain ⟨s,x',y',e,hl⟩ := any x y
    have t:(tOr (tVal (eOp (oEq false) (eVar 3) (eFrz aNil))) (tVal (eOp (oEq false) (Ja4 Jah (Jab (eVar 0) (Jab (eC (.int 5)) aNil))) (eC (.int 0))))) [some (.ref 0),some (encH false n bs),some (.int n),some (.lst false (bs.map encB)),none,none,none,none] [some [.int x,.int y]] = some (true,[some [.int x,.int y]]) := by
      have := hq [some [.int x,.int y]]
      subst hb
      simp only [List.map_nil] at this
      simp [Jad,Jbc,Jap,Jaj,Jae,Jaw,Jg1,Ja3,Ja6,oEq,den,denL,age,ageL,Ja2,Jav,-List.map_map,-Option.map_bind,this]
    have i1:(sIf (tOr (tVal (eOp (oEq false) (eVar 3) (eFrz aNil))) (tVal (eOp (oEq false) (Ja4 Jah (Jab (eVar 0) (Jab (eC (.int 5)) aNil))) (eC (.int 0))))) (sRet (eCB bTup (Jab (eFrz Jd6) aNil))) sNil) [some (.ref 0),some (encH false n bs),some (.int n),some (.lst false (bs.map encB)),none,none,none,none] [some [.int x,.int y]] = some (.ret (encT s),[some (.ref 0),some (encH false n bs),some (.int n),some (.lst false (bs.map encB)),none,none,none,none],[some [.int x',.int y']]) := by rw [Jtr t,e]
    rw [Jot i1]
    exact ⟨s,x',y',by simp [intsOf,-List.map_map,-Option.map_bind],hl⟩
  · obtain ⟨r,x1,y1,e1,r0,r1⟩ := Jcu x y 5 (by decide) (by decide)
    have hq':eqP false [some [.int x,.int y]] (.lst false (bs.map encB)) (.lst true []) = some (.bl false) := by
      rw [hq]
      cases bs with
      | nil => exact absurd rfl hb
      | cons a r => rfl
    have t:(tOr (tVal (eOp (oEq false) (eVar 3) (eFrz aNil))) (tVal (eOp (oEq false) (Ja4 Jah (Jab (eVar 0) (Jab (eC (.int 5)) aNil))) (eC (.int 0))))) [some (.ref 0),some (encH false n bs),some (.int n),some (.lst false (bs.map encB)),none,none,none,none] [some [.int x,.int y]] = some (decide (r = 0),[some [.int x1,.int y1]]) := by
      simp [Jad,Jbc,Jap,Jaj,Jae,Jaw,Jg1,Ja3,Ja6,oEq,intsOf,den,denL,age,ageL,Ja2,Jav,-List.map_map,-Option.map_bind,hq',e1]
    by_cases hr:r = 0
    · obtain ⟨s,x',y',e,hl⟩ := any x1 y1
      rw [decide_eq_true hr] at t
      have i1:(sIf (tOr (tVal (eOp (oEq false) (eVar 3) (eFrz aNil))) (tVal (eOp (oEq false) (Ja4 Jah (Jab (eVar 0) (Jab (eC (.int 5)) aNil))) (eC (.int 0))))) (sRet (eCB bTup (Jab (eFrz Jd6) aNil))) sNil) [some (.ref 0),some (encH false n bs),some (.int n),some (.lst false (bs.map encB)),none,none,none,none] [some [.int x,.int y]] = some (.ret (encT s),[some (.ref 0),some (encH false n bs),some (.int n),some (.lst false (bs.map encB)),none,none,none,none],[some [.int x',.int y']]) := by rw [Jtr t,e]
      rw [Jot i1]
      exact ⟨s,x',y',by simp [intsOf,-List.map_map,-Option.map_bind],hl⟩
    · rw [decide_eq_false hr] at t
      have i1:(sIf (tOr (tVal (eOp (oEq false) (eVar 3) (eFrz aNil))) (tVal (eOp (oEq false) (Ja4 Jah (Jab (eVar 0) (Jab (eC (.int 5)) aNil))) (eC (.int 0))))) (sRet (eCB bTup (Jab (eFrz Jd6) aNil))) sNil) [some (.ref 0),some (encH false n bs),some (.int n),some (.lst false (bs.map encB)),none,none,none,none] [some [.int x,.int y]] = some (.nx,[some (.ref 0),some (encH false n bs),some (.int n),some (.lst false (bs.map encB)),none,none,none,none],[some [.int x1,.int y1]]) := by rw [Jk7 t]; rfl
      rw [Jbd i1]
      have pos:0 < bs.length := List.length_pos_iff.mpr hb
      obtain ⟨j,x2,y2,e2,j0,j1⟩ := Jcu x1 y1 (bs.length:Int) (by omega) (by omega)
      obtain ⟨b,f1,g1⟩ := Jij (F := encB) (l := bs) (i := j) j0 (by omega)
      have bl := (g.box b (List.mem_of_getElem? g1)).1
      have s2:(sSet 4 (eOp oIx (eVar 3) (Ja4 Jah (Jab (eVar 0) (Jab (eCB bLen (Jab (eVar 3) aNil)) aNil))))) [some (.ref 0),some (encH false n bs),some (.int n),some (.lst false (bs.map encB)),none,none,none,none] [some [.int x1,.int y1]] = some (.nx,[some (.ref 0),some (encH false n bs),some (.int n),some (.lst false (bs.map encB)),some (encB b),none,none,none],[some [.int x2,.int y2]]) := by
        simp [Jau,Jad,Jap,Jaj,Jae,Jbv,Ja6,oIx,bLen,VS.listOf,Jax,intsOf,den,denL,age,ageL,Ja2,Jav,-List.map_map,-Option.map_bind,e2,f1]
      have s3:(sSet 5 (eSto aNil)) [some (.ref 0),some (encH false n bs),some (.int n),some (.lst false (bs.map encB)),some (encB b),none,none,none] [some [.int x2,.int y2]] = some (.nx,[some (.ref 0),some (encH false n bs),some (.int n),some (.lst false (bs.map encB)),some (encB b),some (.ref 1),none,none],[some [.int x2,.int y2],some []]) := by
        simp [Jau,Jaj,Jjk,-List.map_map,-Option.map_bind]
      have e4:iSeq (eVar 4) [some (.ref 0),some (encH false n bs),some (.int n),some (.lst false (bs.map encB)),some (encB b),some (.ref 1),none,none] [some [.int x2,.int y2],some []] = some ((b.map encS,[]),[some [.int x2,.int y2],some []]) := by simp [Jad,VS.listOf,Jax,VS.idOf,Jcz,-List.map_map,-Option.map_bind,encB]
      obtain ⟨env',S',e5,ns,x3,y3,d6,d7,he,hS,hl⟩ := Jft (w := []) (g := Pat.sem (.tp [(.nm 6),(.nm 7)])) (b := Jgn) (ds := b.map encS) (env := [some (.ref 0),some (encH false n bs),some (.int n),some (.lst false (bs.map encB)),some (encB b),some (.ref 1),none,none]) (S := [some [.int x2,.int y2],some []])
        (fun i env S => ∃ (ns:List Int) (x3 y3:Int) (d6 d7:Option D),env = [some (.ref 0),some (encH false n bs),some (.int n),some (.lst false (bs.map encB)),some (encB b),some (.ref 1),d6,d7] ∧ S = [some [.int x3,.int y3],some (ns.map .int)] ∧ ns.length = min i b.length)
        ⟨[],x2,y2,none,none,rfl,rfl,by simp⟩ (fun i env S _ => by simp) (fun i d env S hd ⟨ns,x3,y3,d6,d7,he,hS,hl⟩ => by
          have hi := (List.getElem?_eq_some_iff.mp hd).1
          rw [List.length_map] at hi
          rw [List.getElem?_map] at hd
          obtain ⟨p,hp,rfl⟩ := Option.map_eq_some_iff.mp hd
          subst he hS
          obtain ⟨z,x4,y4,e6⟩ := JAl x3 y3 ns p (some (encH false n bs)) (some (.int n)) (some (.lst false (bs.map encB))) (some (encB b)) (by omega)
          exact ⟨_,by simp [Jct,Jf7,Jdv,Jc5,-List.map_map,-Option.map_bind,encS],_,_,e6,ns ++ [z],x4,y4,_,_,rfl,rfl,by simp; omega⟩)
      subst he hS
      have l1:Jh7 [some (.ref 0),some (encH false n bs),some (.int n),some (.lst false (bs.map encB)),some (encB b),some (.ref 1),none,none] [some [.int x2,.int y2],some []] = some (.nx,[some (.ref 0),some (encH false n bs),some (.int n),some (.lst false (bs.map encB)),some (encB b),some (.ref 1),d6,d7],[some [.int x3,.int y3],some (ns.map .int)]) := by
        unfold Jh7
        rw [Jfz,e4]
        exact e5
      rw [Jbd s2,Jbd s3,Jbd l1]
      rw [List.length_map] at hl
      have c2:Jh8 [some (.ref 0),some (encH false n bs),some (.int n),some (.lst false (bs.map encB)),some (encB b),some (.ref 1),d6,d7] [some [.int x3,.int y3],some (ns.map .int)] = some ((ns.map fun z => mx (-1000000000) (mn 1000000000 z)).map .int,[some [.int x3,.int y3],some (ns.map .int)]) := by
        have e7:iSeq (eVar 5) [some (.ref 0),some (encH false n bs),some (.int n),some (.lst false (bs.map encB)),some (encB b),some (.ref 1),d6,d7] [some [.int x3,.int y3],some (ns.map .int)] = some ((ns.map .int,[(1,ns.map .int)]),[some [.int x3,.int y3],some (ns.map .int)]) := by simp [Jad,VS.listOf,Jax,VS.idOf,Jcz,-List.map_map,-Option.map_bind]
        unfold Jh8 Jcg
        rw [e7,List.map_map]
        simp only [Option.bind_some]
        exact Jez (by simp) _ _ _ (by omega) fun z hz => ⟨_,Jct _ _ _,by simp [Jad,Jbc,Jap,Jiy,Jaj,Jae,Jbv,capE,oI,cPow,oPow,oNeg,Jg0,Jjn,List.replicate_succ,-List.map_map,-Option.map_bind,mx,mn]⟩
      refine ⟨ns.map fun z => mx (-1000000000) (mn 1000000000 z),x3,y3,?_,by rw [List.length_map]; omega⟩
      simp [Ja0,Jaj,Jae,Jbv,Ja3,bTup,VS.listOf,Jax,intsOf,den,-List.map_map,-Option.map_bind,c2,encT]
end W06
end
section
set_option Elab.async false
set_option maxRecDepth 10000
set_option linter.all false
set_option maxHeartbeats 4000000
namespace W06
open PySem L2 VS
def half (p:St2):St2 := (p.1 / 2,mx (p.1 / 2 + 1) (p.2 / 2))
def Jml (b:List St2):List St2 := b.map half
theorem JCc (b:List St2) (hl:b.length ≤ 3) (d0 d1:Option D) (S:Store):Jic [d0,d1,some (encB b)] S = some (b.map (fun p => encS (half p)),S) := by
  have e:iSeq (eVar 2) [d0,d1,some (encB b)] S = some ((b.map encS,[]),S) := by simp [Jad,VS.listOf,Jax,VS.idOf,Jcz,-List.map_map,-Option.map_bind,encB]
  unfold Jic Jcg
  rw [e]
  simp only [Option.bind_some]
  exact Jez (by simp) _ _ _ (by omega) fun p hp => ⟨[some (.int p.1),some (.int p.2)],by simp [capE,Jct,Jf7,Jdv,Jc5,List.replicate_succ,-List.map_map,-Option.map_bind,encS],by simp [Jad,Jbc,Jap,Jaj,Jae,Jbv,Jc7,oI,cDiv,oAdd,oDiv,Jg0,VS.listOf,-List.map_map,-Option.map_bind,encS,half,mx]⟩
theorem JCd (b:List St2) (hl:b.length ≤ 3) (done:List (List St2)) (hd:done.length ≤ 20) (d0:Option D):Jgs [d0,some (.ref 0),some (encB b)] [some (done.map encB)] = some (.nx,[d0,some (.ref 0),some (encB b)],[some ((done ++ [Jml b]).map encB)]) := by
  have c := JCc b hl d0 (some (.ref 0)) [some (done.map encB)]
  have hl2:done.length < 1000000 := by omega
  simp [Jgs,Jff,Jad,Jaj,Jae,Jbv,Ja3,Jiz,bTup,VS.listOf,Jax,Je3,-List.map_map,-Option.map_bind,c,hl2,Jml]
  simp [encB]
structure Jr1 (n:Nat) (bs:List (List St2)):Prop where
  ways:n = 1 ∨ n = 2 ∨ n = 3
  most:bs.length ≤ [0,20,10,6].getD n 0
  box:∀ b ∈ bs,b.length = n ∧ ∀ p ∈ b,p.1 < p.2 ∧ -500000000 ≤ p.1 ∧ p.2 ≤ 500000000
theorem Jr1.good {n:Nat} {bs:List (List St2)} (g:Jr1 n bs):Good n bs := ⟨g.ways,g.most,fun b hb => ⟨(g.box b hb).1,fun p hp => by have := (g.box b hb).2 p hp; omega⟩⟩
theorem Jtu {n:Nat} {bs:List (List St2)} (g:Good n bs):Jr1 n (bs.map Jml) := by
  refine ⟨g.ways,by rw [List.length_map]; exact g.most,fun b hb => ?_⟩
  obtain ⟨a,ha,rfl⟩ := List.mem_map.mp hb
  obtain ⟨h1,h2⟩ := g.box a ha
  refine ⟨by rw [Jml,List.length_map]; exact h1,fun p hp => ?_⟩
  obtain ⟨q,hq,rfl⟩ := List.mem_map.mp hp
  have := h2 q hq
  unfold half mx
  dsimp only
  split <;> omega
theorem Jzt {n:Nat} {bs:List (List St2)} (g:Good n bs):Jdn [encH false n bs] = some (encH true n (bs.map Jml)) := by
  have few := g.few
  have n3 := g.n3
  have e:iSeq (eOp oIx (eVar 0) (eC (.int 1))) [some (encH false n bs),some (.ref 0),none] [some []] = some ((bs.map encB,[]),[some []]) := by simp [Jad,Jbc,Jap,oIx,VS.listOf,Jax,VS.idOf,Jcz,-List.map_map,-Option.map_bind,encH]
  obtain ⟨env',S',e2,z2,he,hS⟩ := Jft (w := []) (g := Pat.sem (.nm 2)) (b := Jgs) (ds := bs.map encB) (env := [some (encH false n bs),some (.ref 0),none]) (S := [some []])
    (fun i env S => ∃ z2,env = [some (encH false n bs),some (.ref 0),z2] ∧ S = [some (((bs.take i).map Jml).map encB)]) ⟨none,rfl,by simp⟩ (fun i env S _ => by simp) (fun i d env S hd ⟨z2,he,hS⟩ => by
      rw [List.getElem?_map] at hd
      obtain ⟨b,hb,rfl⟩ := Option.map_eq_some_iff.mp hd
      subst he hS
      have e3 := JCd b (by rw [(g.box b (List.mem_of_getElem? hb)).1]; omega) ((bs.take i).map Jml) (by rw [List.length_map,List.length_take]; omega) (some (encH false n bs))
      refine ⟨_,Jct _ _ _,_,_,e3,_,rfl,?_⟩
      rw [List.take_succ,hb]
      simp)
  subst he hS
  have hlen:(bs.map encB).length = bs.length := by simp
  rw [hlen,List.take_length] at e2
  have s1:(sSet 1 (eSto aNil)) [some (encH false n bs),none,none] [] = some (.nx,[some (encH false n bs),some (.ref 0),none],[some []]) := by simp [Jau,Jaj,Jjk,-List.map_map,-Option.map_bind]
  have l1:Jib [some (encH false n bs),some (.ref 0),none] [some []] = some (.nx,[some (encH false n bs),some (.ref 0),z2],[some ((bs.map Jml).map encB)]) := by
    unfold Jib
    rw [Jfz,e]
    exact e2
  unfold Jdn
  rw [Jck]
  simp only [List.length_cons,List.length_nil,List.map_cons,List.map_nil,Nat.reduceAdd,Nat.reduceSub,List.replicate_succ,List.replicate_zero,List.cons_append,List.nil_append,if_true]
  unfold Jlm
  rw [Jbd s1,Jbd l1]
  simp [Ja0,Jad,Jbc,Jap,Jaj,Jae,Jc7,oIx,VS.listOf,Jax,den,denL,-List.map_map,-Option.map_bind,encH]
def movS (by':Int) (p:St2):St2 := (p.1 + by',p.2 + by')
def mirL:List St2 → List St2
  | [] => []
  | p :: r => (1 - p.2,1 - p.1) :: r
def negH:List Int → List Int
  | [] => []
  | i :: r => (0 - i) :: r
def mvL (k:Int) (mir:Bool) (b:List St2):List St2 := if mir = true then mirL (b.map (movS k)) else b.map (movS k)
def mvT (k:Int) (mir:Bool) (s:List Int):List Int := if mir = true then negH (s.map (· + k)) else s.map (· + k)
def movB (k:Int) (mir:Bool) (ws:List Nat) (b:List St2):List St2 := ws.map fun w => (mvL k mir b).getD w (0,0)
def movT (k:Int) (mir:Bool) (ws:List Nat) (s:List Int):List Int := ws.map fun w => (mvT k mir s).getD w 0
theorem Jpd (k:Int) (mir:Bool) (b:List St2):(mvL k mir b).length = b.length := by
  unfold mvL
  split
  · cases b <;> simp [mirL]
  · simp
theorem Jy3 (k:Int) (mir:Bool) (b:List Int):(mvT k mir b).length = b.length := by
  unfold mvT
  split
  · cases b <;> simp [negH]
  · simp
def WS (n:Nat) (ws:List Nat):Prop := (n = 1 ∧ ws = [0]) ∨ (n = 2 ∧ (ws = [0,1] ∨ ws = [1,0])) ∨ (n = 3 ∧ (ws = [0,1,2] ∨ ws = [2,1,0] ∨ ws = [1,2,0]))
theorem WS.len {n:Nat} {ws:List Nat} (h:WS n ws):ws.length = n := by
  rcases h with ⟨rfl,rfl⟩ | ⟨rfl,rfl | rfl⟩ | ⟨rfl,rfl | rfl | rfl⟩ <;> rfl
theorem WS.lt {n:Nat} {ws:List Nat} (h:WS n ws):∀ w ∈ ws,w < n := by
  rcases h with ⟨rfl,rfl⟩ | ⟨rfl,rfl | rfl⟩ | ⟨rfl,rfl | rfl | rfl⟩ <;> simp
theorem Jmb {n:Nat} {bs:List (List St2)} (g:Jr1 n bs) {k:Int} (h0:-100000000 ≤ k) (h1:k ≤ 100000000) (mir:Bool) {ws:List Nat} (h:WS n ws):Good n (bs.map (movB k mir ws)) := by
  refine ⟨g.ways,by rw [List.length_map]; exact g.most,fun b hb => ?_⟩
  obtain ⟨a,ha,rfl⟩ := List.mem_map.mp hb
  obtain ⟨h2,h3⟩ := g.box a ha
  refine ⟨by rw [movB,List.length_map,h.len],fun p hp => ?_⟩
  obtain ⟨w,hw,rfl⟩ := List.mem_map.mp hp
  have hlt := h.lt w hw
  have hm:∀ q ∈ mvL k mir a,q.1 < q.2 ∧ -1000000000 ≤ q.1 ∧ q.2 ≤ 1000000000 := by
    have base:∀ q ∈ a.map (movS k),q.1 < q.2 ∧ -600000000 ≤ q.1 ∧ q.2 ≤ 600000000 := fun q hq => by
      obtain ⟨r,hr,rfl⟩ := List.mem_map.mp hq
      have := h3 r hr
      unfold movS
      dsimp only
      omega
    unfold mvL
    split
    · intro q hq
      cases hc:a.map (movS k) with
      | nil => rw [hc] at hq; simp [mirL] at hq
      | cons p r =>
        rw [hc] at hq base
        simp only [mirL,List.mem_cons] at hq
        rcases hq with rfl | hq
        · have := base p List.mem_cons_self
          dsimp only
          omega
        · have := base q (List.mem_cons_of_mem _ hq)
          omega
    · intro q hq
      have := base q hq
      omega
  have hg:(mvL k mir a).getD w (0,0) = (mvL k mir a)[w]'(by rw [Jpd]; omega) := by
    rw [List.getD_eq_getElem?_getD,List.getElem?_eq_getElem (by rw [Jpd]; omega)]; rfl
  rw [hg]
  exact hm _ (List.getElem_mem _)
theorem len1 {α:Type} {l:List α} (h:l.length = 1):∃ a,l = [a] := by
  match l,h with
  | [a],_ => exact ⟨a,rfl⟩
theorem len2 {α:Type} {l:List α} (h:l.length = 2):∃ a b,l = [a,b] := by
  match l,h with
  | [a,b],_ => exact ⟨a,b,rfl⟩
theorem len3 {α:Type} {l:List α} (h:l.length = 3):∃ a b c,l = [a,b,c] := by
  match l,h with
  | [a,b,c],_ => exact ⟨a,b,c,rfl⟩
theorem Jxm (k:Int) (p:St2) (i:Int):in1 (movS k p) (i + k) = in1 p i := by
  unfold in1 movS; rw [Bool.eq_iff_iff]; simp only [Bool.and_eq_true,decide_eq_true_eq]; omega
theorem JB6 (p:St2) (i:Int):in1 (1 - p.2,1 - p.1) (0 - i) = in1 p i := by
  unfold in1; rw [Bool.eq_iff_iff]; simp only [Bool.and_eq_true,decide_eq_true_eq]; omega
theorem Js7 {n:Nat} {b:List St2} {s:List Int} (hb:b.length = n) (hs:s.length = n) (k:Int) (mir:Bool) {ws:List Nat} (h:WS n ws):Jbt (movB k mir ws b) (movT k mir ws s) = Jbt b s := by
  have e1 := Jxm k
  have e2:∀ (p:St2) (i:Int),in1 (1 - (movS k p).2,1 - (movS k p).1) (-(i + k)) = in1 p i := fun p i => by
    have := JB6 (movS k p) (i + k)
    rw [Int.zero_sub] at this
    rw [this,Jxm]
  rcases h with ⟨rfl,h⟩ | ⟨rfl,h⟩ | ⟨rfl,h⟩
  · obtain ⟨p,rfl⟩ := len1 hb
    obtain ⟨i,rfl⟩ := len1 hs
    subst h
    cases mir <;> simp [movB,movT,mvL,mvT,mirL,negH,Jbt,e1,e2]
  · obtain ⟨p,q,rfl⟩ := len2 hb
    obtain ⟨i,j,rfl⟩ := len2 hs
    rcases h with rfl | rfl <;> cases mir <;> simp [movB,movT,mvL,mvT,mirL,negH,Jbt,e1,e2,Bool.and_comm]
  · obtain ⟨p,q,r,rfl⟩ := len3 hb
    obtain ⟨i,j,l,rfl⟩ := len3 hs
    rcases h with rfl | rfl | rfl <;> cases mir <;> simp [movB,movT,mvL,mvT,mirL,negH,Jbt,e1,e2] <;> ac_rfl
theorem Jvm {n:Nat} {b:List St2} (hb:b.length = n) (k:Int) (mir:Bool) {ws:List Nat} (h:WS n ws):Jds (movB k mir ws b) = Jds b := by
  have e1:∀ p:St2,(movS k p).2 - (movS k p).1 = p.2 - p.1 := fun p => by unfold movS; dsimp only; omega
  have e2:∀ p:St2,1 - (movS k p).1 - (1 - (movS k p).2) = p.2 - p.1 := fun p => by unfold movS; dsimp only; omega
  rcases h with ⟨rfl,h⟩ | ⟨rfl,h⟩ | ⟨rfl,h⟩
  · obtain ⟨p,rfl⟩ := len1 hb
    subst h
    cases mir <;> simp [movB,mvL,mirL,Jds,e1,e2]
  · obtain ⟨p,q,rfl⟩ := len2 hb
    rcases h with rfl | rfl <;> cases mir <;> simp [movB,mvL,mirL,Jds,e1,e2] <;> ac_rfl
  · obtain ⟨p,q,r,rfl⟩ := len3 hb
    rcases h with rfl | rfl | rfl <;> cases mir <;> simp [movB,mvL,mirL,Jds,e1,e2] <;> ac_rfl
theorem Jz4 {n:Nat} {bs:List (List St2)} (hb:∀ b ∈ bs,b.length = n) {s:List Int} (hs:s.length = n) (k:Int) (mir:Bool) {ws:List Nat} (h:WS n ws):atN (bs.map (movB k mir ws)) (movT k mir ws s) = atN bs s := by
  induction bs with
  | nil => rfl
  | cons b r ih =>
    rw [List.map_cons,Jhq,Jhq,Js7 (hb b List.mem_cons_self) hs k mir h,ih fun c hc => hb c (List.mem_cons_of_mem _ hc)]
end W06
end
section
set_option Elab.async false
set_option maxRecDepth 10000
set_option linter.all false
set_option maxHeartbeats 4000000
namespace W06
open PySem L2 VS
theorem Jtx (o:Option (List St2)):Ja2 (encO o) = true ∧ Jdl (encO o) = true := by
  cases o with
  | none => exact ⟨rfl,rfl⟩
  | some b => exact ⟨Jss b,Jfl b⟩
theorem Jb2 {sem:PSem} {a:ASem} {env:VS.Env} {S S':Store} {ds es:List D} {r:D} (h:a env S = some (ds,S')) (hp:Jav ds = true) (ha:ageL ds = es) (hr:sem es = some r):Jam sem a env S = some (r,S') := by
  rw [Jca,h]
  simp only [Option.bind_some,Jbn 0 S' hp,ha,hr,hp,Bool.true_or,if_true]
theorem Jux {sem:PSem} {a:ASem} {env:VS.Env} {S S':Store} {d d':D} {cs:List D} (h:Jam sem a env S = some (d,S')) (ht:thaw S'.length d = some (d',cs)):Jn7 sem a env S = some (d',S' ++ [some cs]) := by
  rw [Jty,h,Option.bind_some]
  show (thaw S'.length d).bind _ = _
  rw [ht]; rfl
theorem Jmv {sem:MSem} {a:ASem} {env:VS.Env} {S S':Store} {i:Nat} {rest es:List D} {ns ms:List Int} {r:D} (h:a env S = some (.ref i :: rest,S')) (hi:S'[i]? = some (some (ns.map D.int))) (hp:Jav rest = true) (ha:ageL rest = es) (hr:sem ns es = some (r,ms)):Ja4 sem a env S = some (r,S'.set i (some (ms.map D.int))) := by
  rw [Ja6,h]
  simp only [Option.bind_some,hi,Jhn,Jbn 0 _ hp,ha,hr,hp,Bool.true_or,if_true]
theorem end0 (S:Store) (a:Option (List D)) (l:List (Option (List D))):(S ++ a :: l)[S.length]? = some a := by simp
theorem set0 (S:Store) (a c:Option (List D)) (l:List (Option (List D))):(S ++ a :: l).set S.length c = S ++ c :: l := by
  rw [List.set_append_right _ _ (by omega)]
  simp
end W06
end
section
set_option Elab.async false
set_option maxRecDepth 10000
set_option linter.all false
set_option maxHeartbeats 4000000
namespace W06
open PySem L2 VS
def encW (m:Bool) (ws:List Nat):D := .lst m (ws.map fun (w:Nat) => D.int w)
theorem Jvl (b:List St2) (hl:b.length ≤ 3) (k:Int) (d0 d2 d3 d4 d6:Option D) (S:Store):Jfv [d0,some (.int k),d2,d3,d4,some (encB b),d6] S = some (b.map (fun p => encS (movS k p)),S) := by
  have e:iSeq (eVar 5) [d0,some (.int k),d2,d3,d4,some (encB b),d6] S = some ((b.map encS,[]),S) := by simp [Jad,VS.listOf,Jax,VS.idOf,Jcz,-List.map_map,-Option.map_bind,encB]
  unfold Jfv Jcg
  rw [e]
  simp only [Option.bind_some]
  exact Jez (by simp) _ _ _ (by omega) fun p hp => ⟨[some (.int p.1),some (.int p.2),some (.int k)],by simp [capE,Jct,Jf7,Jdv,Jc5,List.replicate_succ,-List.map_map,-Option.map_bind,encS],by simp [Jad,Jap,Jaj,Jae,Jc7,oAdd,VS.listOf,-List.map_map,-Option.map_bind,encS,movS]⟩
theorem Jvk (ws:List Nat) (hn:ws.length ≤ 3) (l:List St2) (hw:∀ w ∈ ws,w < l.length) (m:Bool) (d0 d1 d2 d4 d5:Option D) (j:Nat) (S:Store) (hS:S[j]? = some (some (l.map encS))) :
    Jha [d0,d1,d2,some (encW m ws),d4,d5,some (.ref j)] S = some (ws.map (fun w => encS (l.getD w (0,0))),S) := by
  have e:iSeq (eVar 3) [d0,d1,d2,some (encW m ws),d4,d5,some (.ref j)] S = some ((ws.map fun (w:Nat) => D.int w,[]),S) := by simp [Jad,VS.listOf,Jax,VS.idOf,Jcz,-List.map_map,-Option.map_bind,encW]
  unfold Jha Jcg
  rw [e]
  simp only [Option.bind_some]
  refine Jez (by simp) _ _ _ (by omega) fun w hw' => ⟨[some (.int w),some (.ref j)],by simp [capE,Jct,List.replicate_succ,-List.map_map,-Option.map_bind],?_⟩
  have hlt := hw w hw'
  have ha:atI (l.map encS) (w:Int) = some (encS (l.getD w (0,0))) := Jgv (by rw [List.getElem?_map,List.getD_eq_getElem?_getD,List.getElem?_eq_getElem hlt]; rfl)
  simp only [Jap,Jad,List.getElem?_cons_zero,List.getElem?_cons_succ,Option.join_some,Option.map_some,Option.bind_some,oIx,Jax,VS.listOf,hS,ha]
theorem JBw (a:Option (List D)) (r:List (Option (List D))) (z:Option (List D)):(a :: (r ++ [z]))[r.length + 1]? = some z := by simp
theorem Jy5 (n:Nat) (b:List St2) (hl:b.length ≤ 3) (h1:1 ≤ b.length) (k:Int) (mir:Bool) (ws:List Nat) (hn:ws.length ≤ 3) (hw:∀ w ∈ ws,w < b.length) (m:Bool) (done:List (List St2)) (hd:done.length ≤ 20) (rest:List (Option (List D))) (d0 d6:Option D) :
    ∃ z6 rest',Jfw [d0,some (.int k),some (.bl mir),some (encW m ws),some (.ref 0),some (encB b),d6] (some (done.map encB) :: rest) = some (.nx,[d0,some (.int k),some (.bl mir),some (encW m ws),some (.ref 0),some (encB b),z6],some ((done ++ [movB k mir ws b]).map encB) :: rest') := by
  have c1 := Jvl b hl k d0 (some (.bl mir)) (some (encW m ws)) (some (.ref 0)) d6 (some (done.map encB) :: rest)
  have s1:(sSet 6 (eSto Jfv)) [d0,some (.int k),some (.bl mir),some (encW m ws),some (.ref 0),some (encB b),d6] (some (done.map encB) :: rest) = some (.nx,[d0,some (.int k),some (.bl mir),some (encW m ws),some (.ref 0),some (encB b),some (.ref (rest.length + 1))],some (done.map encB) :: (rest ++ [some ((b.map (movS k)).map encS)])) := by
    simp [Jau,Jjk,c1]
  have s2:(sIf (tVal (eVar 2)) (Jjq (eTup (Jab (eOp oSub (eC (.int 1)) (eOp oIx (eOp oIx (eVar 6) (eC (.int 0))) (eC (.int 1)))) (Jab (eOp oSub (eC (.int 1)) (eOp oIx (eOp oIx (eVar 6) (eC (.int 0))) (eC (.int 0)))) aNil))) (eVar 6) (eC (.int 0))) sNil)
      [d0,some (.int k),some (.bl mir),some (encW m ws),some (.ref 0),some (encB b),some (.ref (rest.length + 1))] (some (done.map encB) :: (rest ++ [some ((b.map (movS k)).map encS)])) = some (.nx,[d0,some (.int k),some (.bl mir),some (encW m ws),some (.ref 0),some (encB b),some (.ref (rest.length + 1))],some (done.map encB) :: (rest ++ [some ((mvL k mir b).map encS)])) := by
    cases mir with
    | false => simp [Jb9,Jbe,Jf6,Jad,Jbc,Jap,Jaj,Jae,Jaw,Jc7,oI,yes2,oSub,oIx,VS.listOf,Jax,-List.map_map,-Option.map_bind,mvL]
    | true =>
      match b,h1 with
      | p :: r,_ =>
        have hx := JBw (some (done.map encB)) rest (some (((p :: r).map (movS k)).map encS))
        rw [Jtr (S1 := some (done.map encB) :: (rest ++ [some (((p :: r).map (movS k)).map encS)])) (by simp [Jad,Jaw,-List.map_map,-Option.map_bind])]
        simp [Jf6,Jad,Jbc,Jap,Jaj,Jae,Jc7,oI,yes2,oSub,oIx,VS.listOf,Jax,-List.map_map,-Option.map_bind,encS,mvL,mirL,ixN]
  have c2 := Jvk ws hn (mvL k mir b) (by rw [Jpd]; exact hw) m d0 (some (.int k)) (some (.bl mir)) (some (.ref 0)) (some (encB b)) (rest.length + 1) (some (done.map encB) :: (rest ++ [some ((mvL k mir b).map encS)])) (JBw _ _ _)
  have hl2:done.length < 1000000 := by omega
  refine ⟨some (.ref (rest.length + 1)),rest ++ [some ((mvL k mir b).map encS)],?_⟩
  unfold Jfw
  rw [Jbd s1,Jbd s2]
  have hb:encB (movB k mir ws b) = .tup (ws.map fun w => encS ((mvL k mir b).getD w (0,0))) := by rw [encB,movB,List.map_map]; rfl
  rw [List.map_append,List.map_cons,List.map_nil,hb]
  simp [Jff,Jad,Jaj,Jae,Jbv,Ja3,Jiz,bTup,VS.listOf,Jax,Je3,-List.map_map,-Option.map_bind,c2,hl2]
theorem Jvj {n:Nat} {bs:List (List St2)} (g:Good n bs) (k:Int) (mir:Bool) {ws:List Nat} (h:WS n ws):Jdc [encH false n bs,.int k,.bl mir,encW false ws] = some (encH true n (bs.map (movB k mir ws))) := by
  have few := g.few
  have n3 := g.n3
  have e:iSeq (eOp oIx (eVar 0) (eC (.int 1))) [some (encH false n bs),some (.int k),some (.bl mir),some (encW false ws),some (.ref 0),none,none] [some []] = some ((bs.map encB,[]),[some []]) := by simp [Jad,Jbc,Jap,oIx,VS.listOf,Jax,VS.idOf,Jcz,-List.map_map,-Option.map_bind,encH]
  obtain ⟨env',S',e2,z5,z6,rest,he,hS⟩ := Jft (w := []) (g := Pat.sem (.nm 5)) (b := Jfw) (ds := bs.map encB) (env := [some (encH false n bs),some (.int k),some (.bl mir),some (encW false ws),some (.ref 0),none,none]) (S := [some []])
    (fun i env S => ∃ z5 z6 rest,env = [some (encH false n bs),some (.int k),some (.bl mir),some (encW false ws),some (.ref 0),z5,z6] ∧ S = some (((bs.take i).map (movB k mir ws)).map encB) :: rest) ⟨none,none,[],rfl,by simp⟩ (fun i env S _ => by simp) (fun i d env S hd ⟨z5,z6,rest,he,hS⟩ => by
      rw [List.getElem?_map] at hd
      obtain ⟨b,hb,rfl⟩ := Option.map_eq_some_iff.mp hd
      subst he hS
      have hbl := (g.box b (List.mem_of_getElem? hb)).1
      obtain ⟨z6',rest',e3⟩ := Jy5 n b (by omega) (by omega) k mir ws (by rw [h.len]; omega) (fun w hw => by rw [hbl]; exact h.lt w hw) false ((bs.take i).map (movB k mir ws)) (by rw [List.length_map,List.length_take]; omega) rest (some (encH false n bs)) z6
      refine ⟨_,Jct _ _ _,_,_,e3,some (encB b),z6',rest',rfl,?_⟩
      rw [List.take_succ,hb]
      simp)
  subst he hS
  have hlen:(bs.map encB).length = bs.length := by simp
  rw [hlen,List.take_length] at e2
  have s1:(sSet 4 (eSto aNil)) [some (encH false n bs),some (.int k),some (.bl mir),some (encW false ws),none,none,none] [] = some (.nx,[some (encH false n bs),some (.int k),some (.bl mir),some (encW false ws),some (.ref 0),none,none],[some []]) := by simp [Jau,Jaj,Jjk,-List.map_map,-Option.map_bind]
  have l1:Jg9 [some (encH false n bs),some (.int k),some (.bl mir),some (encW false ws),some (.ref 0),none,none] [some []] = some (.nx,[some (encH false n bs),some (.int k),some (.bl mir),some (encW false ws),some (.ref 0),z5,z6],some ((bs.map (movB k mir ws)).map encB) :: rest) := by
    unfold Jg9
    rw [Jfz,e]
    exact e2
  unfold Jdc
  rw [Jck]
  simp only [List.length_cons,List.length_nil,List.map_cons,List.map_nil,Nat.reduceAdd,Nat.reduceSub,List.replicate_succ,List.replicate_zero,List.cons_append,List.nil_append,if_true]
  unfold Jku
  rw [Jbd s1,Jbd l1]
  simp [Ja0,Jad,Jbc,Jap,Jaj,Jae,Jc7,oIx,VS.listOf,Jax,den,denL,-List.map_map,-Option.map_bind,encH]
theorem Jly {n:Nat} {s:List Int} (hs:s.length = n) (h1:1 ≤ n) (hn:n ≤ 3) (k:Int) (mir:Bool) {ws:List Nat} (h:WS n ws):Jb4 [encT s,.int k,.bl mir,encW false ws] = some (encT (movT k mir ws s)) := by
  have c1:Jdw [some (encT s),some (.int k),some (.bl mir),some (encW false ws),none] [] = some ((s.map (· + k)).map .int,[]) := by
    have e:iSeq (eVar 0) [some (encT s),some (.int k),some (.bl mir),some (encW false ws),none] [] = some ((s.map D.int,[]),[]) := by simp [Jad,VS.listOf,Jax,VS.idOf,Jcz,-List.map_map,-Option.map_bind,encT]
    unfold Jdw Jcg
    rw [e,List.map_map]
    simp only [Option.bind_some]
    exact Jez (by simp) _ _ _ (by omega) fun i hi => ⟨[some (.int i),some (.int k)],by simp [capE,Jct,List.replicate_succ,-List.map_map,-Option.map_bind],by simp [Jad,Jap,oAdd,VS.listOf,-List.map_map,-Option.map_bind]⟩
  have s1:(sSet 4 (eSto Jdw)) [some (encT s),some (.int k),some (.bl mir),some (encW false ws),none] [] = some (.nx,[some (encT s),some (.int k),some (.bl mir),some (encW false ws),some (.ref 0)],[some ((s.map (· + k)).map .int)]) := by
    simp [Jau,Jjk,c1]
  have s2:(sIf (tVal (eVar 2)) (Jjq (eOp oSub (eC (.int 0)) (eOp oIx (eVar 4) (eC (.int 0)))) (eVar 4) (eC (.int 0))) sNil)
      [some (encT s),some (.int k),some (.bl mir),some (encW false ws),some (.ref 0)] [some ((s.map (· + k)).map .int)] = some (.nx,[some (encT s),some (.int k),some (.bl mir),some (encW false ws),some (.ref 0)],[some ((mvT k mir s).map .int)]) := by
    cases mir with
    | false => simp [Jb9,Jbe,Jf6,Jad,Jbc,Jap,Jaw,oI,yes2,oSub,oIx,VS.listOf,Jax,-List.map_map,-Option.map_bind,mvT]
    | true =>
      match s,hs,h1 with
      | [],hs,h1 => simp at hs; omega
      | i :: r,_,_ => simp [Jb9,Jbe,Jf6,Jad,Jbc,Jap,Jaw,oI,yes2,oSub,oIx,VS.listOf,Jax,-List.map_map,-Option.map_bind,mvT,negH,ixN]
  have c2:Jev [some (encT s),some (.int k),some (.bl mir),some (encW false ws),some (.ref 0)] [some ((mvT k mir s).map .int)] = some (ws.map (fun w => D.int ((mvT k mir s).getD w 0)),[some ((mvT k mir s).map .int)]) := by
    have e:iSeq (eVar 3) [some (encT s),some (.int k),some (.bl mir),some (encW false ws),some (.ref 0)] [some ((mvT k mir s).map .int)] = some ((ws.map fun (w:Nat) => D.int w,[]),[some ((mvT k mir s).map .int)]) := by simp [Jad,VS.listOf,Jax,VS.idOf,Jcz,-List.map_map,-Option.map_bind,encW]
    unfold Jev Jcg
    rw [e]
    simp only [Option.bind_some]
    refine Jez (by simp) _ _ _ (by rw [h.len]; omega) fun w hw => ⟨[some (.int w),some (.ref 0)],by simp [capE,Jct,List.replicate_succ,-List.map_map,-Option.map_bind],?_⟩
    have hlt:w < (mvT k mir s).length := by rw [Jy3,hs]; exact h.lt w hw
    have ha:atI ((mvT k mir s).map D.int) (w:Int) = some (.int ((mvT k mir s).getD w 0)) := Jgv (by rw [List.getElem?_map,List.getD_eq_getElem?_getD,List.getElem?_eq_getElem hlt]; rfl)
    simp only [Jap,Jad,List.getElem?_cons_zero,List.getElem?_cons_succ,Option.join_some,Option.map_some,Option.bind_some,oIx,Jax,VS.listOf,ha]
  unfold Jb4
  rw [Jck]
  simp only [List.length_cons,List.length_nil,List.map_cons,List.map_nil,Nat.reduceAdd,Nat.reduceSub,List.replicate_succ,List.replicate_zero,List.cons_append,List.nil_append,if_true]
  unfold Jgy
  rw [Jbd s1,Jbd s2]
  have hb:encT (movT k mir ws s) = .tup (ws.map fun w => D.int ((mvT k mir s).getD w 0)) := by rw [encT,movT,List.map_map]; rfl
  have hd:∀ S:Store,denL 0 S (ws.map fun w => D.int ((mvT k mir s).getD w 0)) = some (ws.map fun w => D.int ((mvT k mir s).getD w 0)) := fun S => by
    have := Jbn 0 S (Jeu (ws.map fun w => (mvT k mir s).getD w 0))
    rw [List.map_map] at this
    exact this
  rw [hb]
  simp [Ja0,Jbv,Jae,Jaj,Ja3,c2,bTup,VS.Jax,VS.listOf,den]
  simpa using hd [some ((mvT k mir s).map D.int)]
end W06
end
section
set_option Elab.async false
set_option maxRecDepth 10000
set_option linter.all false
set_option maxHeartbeats 4000000
namespace W06
open PySem L2 VS
theorem Jmo (neg:Bool) (S:Store) (c:Option (List St2)):oEq true S (encO c) (encO c) = some (.bl false) := by
  cases c with
  | none => exact Jj9 0 (Jqe S) (Jqe S) rfl (by decide)
  | some b => exact Jj9 2 (Jkg S b) (Jkg S b) (Jw2 0 b) (by decide)
theorem Jwm (S:Store) (c:Bool):oEq true S (.bl c) (.bl c) = some (.bl false) := Jj9 0 (Jsl S c) (Jsl S c) rfl (by decide)
theorem JB7 {bs:List (List St2)} {s:List Int} {i:Nat} {b:List St2} (h:bs[i]? = some b) (S:Store):oIn false S (.int i) (.lst true ((atN bs s).map fun (i:Nat) => D.int i)) = some (.bl (Jbt b s)) := by
  have e:intsOf ((atN bs s).map fun (i:Nat) => D.int i) = some ((atN bs s).map fun (i:Nat) => (i:Int)) := by
    have := Jhn ((atN bs s).map fun (i:Nat) => (i:Int))
    rw [List.map_map] at this
    exact this
  have e2:((atN bs s).map fun (i:Nat) => (i:Int)).any (fun n => n == (i:Int)) = Jbt b s := by
    rw [Bool.eq_iff_iff,← Jz5 h,List.any_eq_true]
    constructor
    · rintro ⟨x,hx,e⟩
      obtain ⟨j,hj,rfl⟩ := List.mem_map.mp hx
      have:(j:Int) = i := by simpa using e
      have:j = i := by omega
      exact this ▸ hj
    · intro hi
      exact ⟨i,List.mem_map_of_mem hi,by simp⟩
  rw [oIn]
  simp only [Jax,VS.listOf,Option.bind_some,e,Option.map_some,e2,Bool.false_xor]
theorem JAg {n:Nat} {bs:List (List St2)} (g:Good n bs) {i j:Nat} {a b:List St2} (hi:bs[i]? = some a) (hj:bs[j]? = some b) {s:List Int} (hs:s.length = n):Jb0 [encH false n bs,.int i,.int j,encT s] = some (.bl true) := by
  have n3 := g.n3
  obtain ⟨la,ga⟩ := g.box a (List.mem_of_getElem? hi)
  obtain ⟨lb,gb⟩ := g.box b (List.mem_of_getElem? hj)
  have k1 := Ji2 g hi hj
  have k2 := Ji2 g hj hi
  have k3 := Ji2 g hi hi
  rw [Jt5] at k2
  rw [Jt4 fun p hp => (ga p hp).1] at k3
  have ka := Jfo g hs
  have z1 := Jf1 g hi
  have z2 := Jf1 g hj
  have aa:atI (bs.map encB) (i:Int) = some (encB a) := Jgv (by rw [List.getElem?_map,hi]; rfl)
  have ia := JB7 (s := s) hi []
  have ib := JB7 (s := s) hj []
  have hcl:(comL a b).length = a.length := Jt6 (by omega)
  have hh := Jnz a b s (by omega)
  generalize (i:Int) = x at *
  generalize (j:Int) = y at *
  generalize hc:comO a b = c at *
  obtain ⟨hp,hf⟩ := Jtx c
  have ha := Jiu hf
  have pT := Jfg s
  have pH := Jsr false n bs
  have c1:∀ z4 z5 z6 z7,(Jam Ja1 (Jab (eVar 0) (Jab (eVar 1) (Jab (eVar 2) aNil)))) [some (encH false n bs),some (.int x),some (.int y),some (encT s),z4,z5,z6,z7] [] = some (encO c,[]) := fun z4 z5 z6 z7 =>
    Jb2 (ds := [encH false n bs,.int x,.int y]) (by simp [Jae,Jaj,Jad]) (by simp [Jav,Ja2]) (by simp [ageL,age]) k1
  have c2:∀ z4 z5 z6 z7,(Jam Ja1 (Jab (eVar 0) (Jab (eVar 2) (Jab (eVar 1) aNil)))) [some (encH false n bs),some (.int x),some (.int y),some (encT s),z4,z5,z6,z7] [] = some (encO c,[]) := fun z4 z5 z6 z7 =>
    Jb2 (ds := [encH false n bs,.int y,.int x]) (by simp [Jae,Jaj,Jad]) (by simp [Jav,Ja2]) (by simp [ageL,age]) k2
  have c3:∀ z4 z5 z6 z7,(Jam Ja1 (Jab (eVar 0) (Jab (eVar 1) (Jab (eVar 1) aNil)))) [some (encH false n bs),some (.int x),some (.int y),some (encT s),z4,z5,z6,z7] [] = some (encO (some a),[]) := fun z4 z5 z6 z7 =>
    Jb2 (ds := [encH false n bs,.int x,.int x]) (by simp [Jae,Jaj,Jad]) (by simp [Jav,Ja2]) (by simp [ageL,age]) k3
  have c4:∀ z4 z5 z6 z7,(Jam Jay (Jab (eVar 0) (Jab (eVar 3) aNil))) [some (encH false n bs),some (.int x),some (.int y),some (encT s),z4,z5,z6,z7] [] = some (.lst true ((atN bs s).map fun (i:Nat) => D.int i),[]) := fun z4 z5 z6 z7 =>
    Jb2 (ds := [encH false n bs,encT s]) (by simp [Jae,Jaj,Jad]) (by simp [Jav,Ja2,pT]) (by simp [ageL,age]) ka
  have c5:∀ z4 z5 z6 z7,(Jam Jba (Jab (eVar 0) (Jab (eVar 1) aNil))) [some (encH false n bs),some (.int x),some (.int y),some (encT s),z4,z5,z6,z7] [] = some (.int (Jds a),[]) := fun z4 z5 z6 z7 =>
    Jb2 (ds := [encH false n bs,.int x]) (by simp [Jae,Jaj,Jad]) (by simp [Jav,Ja2]) (by simp [ageL,age]) z1
  have c6:∀ z4 z5 z6 z7,(Jam Jba (Jab (eVar 0) (Jab (eVar 2) aNil))) [some (encH false n bs),some (.int x),some (.int y),some (encT s),z4,z5,z6,z7] [] = some (.int (Jds b),[]) := fun z4 z5 z6 z7 =>
    Jb2 (ds := [encH false n bs,.int y]) (by simp [Jae,Jaj,Jad]) (by simp [Jav,Ja2]) (by simp [ageL,age]) z2
  have s1:(sSet 4 (Jam Ja1 (Jab (eVar 0) (Jab (eVar 1) (Jab (eVar 2) aNil))))) [some (encH false n bs),some (.int x),some (.int y),some (encT s),none,none,none,none] [] = some (.nx,[some (encH false n bs),some (.int x),some (.int y),some (encT s),some (encO c),none,none,none],[]) := by
    rw [Jau,c1]; rfl
  have t2:(tVal (eOp (oEq true) (eVar 4) (Jam Ja1 (Jab (eVar 0) (Jab (eVar 2) (Jab (eVar 1) aNil)))))) [some (encH false n bs),some (.int x),some (.int y),some (encT s),some (encO c),none,none,none] [] = some (false,[]) := by
    rw [Jaw,Jap,Jad]
    simp only [List.getElem?_cons_zero,List.getElem?_cons_succ,Option.join_some,Option.map_some,Option.bind_some,c2,Jmo true]
  have t3:(tVal (eOp (oEq true) (Jam Ja1 (Jab (eVar 0) (Jab (eVar 1) (Jab (eVar 1) aNil)))) (eOp oIx (eOp oIx (eVar 0) (eC (.int 1))) (eVar 1)))) [some (encH false n bs),some (.int x),some (.int y),some (encT s),some (encO c),none,none,none] [] = some (false,[]) := by
    rw [Jaw,Jap,c3]
    have e:(eOp oIx (eOp oIx (eVar 0) (eC (.int 1))) (eVar 1)) [some (encH false n bs),some (.int x),some (.int y),some (encT s),some (encO c),none,none,none] [] = some (encO (some a),[]) := by
      simp [Jap,Jad,Jbc,encH,oIx,Jax,VS.listOf,aa,encO]
    simp only [Option.bind_some,e,Option.map_some,Jmo true]
  have s4:(sSet 5 (Jam Jay (Jab (eVar 0) (Jab (eVar 3) aNil)))) [some (encH false n bs),some (.int x),some (.int y),some (encT s),some (encO c),none,none,none] [] = some (.nx,[some (encH false n bs),some (.int x),some (.int y),some (encT s),some (encO c),some (.lst true ((atN bs s).map fun (i:Nat) => D.int i)),none,none],[]) := by
    rw [Jau,c4]; rfl
  have s5:(sSet 6 (eAnd (eOp (oIn false) (eVar 1) (eVar 5)) (eOp (oIn false) (eVar 2) (eVar 5)))) [some (encH false n bs),some (.int x),some (.int y),some (encT s),some (encO c),some (.lst true ((atN bs s).map fun (i:Nat) => D.int i)),none,none] [] = some (.nx,[some (encH false n bs),some (.int x),some (.int y),some (encT s),some (encO c),some (.lst true ((atN bs s).map fun (i:Nat) => D.int i)),some (.bl (Jbt (comL a b) s)),none],[]) := by
    rw [hh]
    cases h1:Jbt a s <;> rw [h1] at ia <;> simp [Jau,Jmq,Jap,Jad,ia,ib]
  unfold Jb0
  rw [Jck]
  simp only [List.length_cons,List.length_nil,List.map_cons,List.map_nil,Nat.reduceAdd,Nat.reduceSub,List.replicate_succ,List.replicate_zero,List.cons_append,List.nil_append,if_true]
  unfold Jhg
  rw [Jbd s1,Jbu,Jk7 t2,Jbe]
  show ((sSeq _ _) _ _).bind _ = _
  rw [Jbu,Jk7 t3,Jbe]
  show ((sSeq _ _) _ _).bind _ = _
  rw [Jbd s4,Jbd s5]
  cases c with
  | none =>
    have hk:okL (comL a b) = false := by
      unfold comO at hc
      split at hc
      · cases hc
      · simpa using ‹¬ okL (comL a b) = true›
    have hno:Jbt (comL a b) s = false := by
      cases h:Jbt (comL a b) s with
      | false => rfl
      | true => rw [Jny (comL a b) s (by omega) h] at hk; cases hk
    rw [hno]
    simp [Jbu,Jb9,Jaw,Jap,Jad,Jbc,encO,oIsN,Ja0,Jtz,den]
  | some l =>
    have hl:l = comL a b ∧ okL (comL a b) = true := by
      unfold comO at hc
      split at hc
      · cases hc; exact ⟨rfl,‹_›⟩
      · cases hc
    obtain ⟨rfl,hk⟩ := hl
    have gl:∀ p ∈ comL a b,p.1 < p.2 := fun p hp => of_decide_eq_true (List.all_eq_true.mp hk p hp)
    have gc:Good n [comL a b] := ⟨g.ways,by rcases g.ways with h | h | h <;> subst h <;> simp,fun q hq => by
      have:q = comL a b := by simpa using hq
      subst this
      refine ⟨by omega,fun p hp => ?_⟩
      have := Jq5 a b (fun p hp => ⟨(ga p hp).2.1,(ga p hp).2.2⟩) p hp
      exact ⟨gl p hp,this.1,this.2⟩⟩
    have hbx := Jnv (n := n) (b := comL a b) g.ways gl (by omega)
    have hho := Jte (comL a b) s (by omega) (by omega)
    have hsz := Jf1 gc (i := 0) rfl
    have hz1 := Jke hk
    have hz2 := Jl1 a b (by omega) hk
    have hz3 := Jl1 b a (by omega) (by rw [Ji3]; exact hk)
    rw [Ji3] at hz3
    have s6:(sIf (tVal (eOp (oIsN false) (eVar 4) (eC .non))) (sRet (eNot (eVar 6))) sNil) [some (encH false n bs),some (.int x),some (.int y),some (encT s),some (encO (some (comL a b))),some (.lst true ((atN bs s).map fun (i:Nat) => D.int i)),some (.bl (Jbt (comL a b) s)),none] [] = some (.nx,[some (encH false n bs),some (.int x),some (.int y),some (encT s),some (encO (some (comL a b))),some (.lst true ((atN bs s).map fun (i:Nat) => D.int i)),some (.bl (Jbt (comL a b) s)),none],[]) := by
      simp [Jb9,Jaw,Jap,Jad,Jbc,encO,encB,oIsN,Jbe]
    have b1:(Jam Jc2 (Jab (eOp oIx (eVar 0) (eC (.int 0))) (Jab (eVar 4) aNil))) [some (encH false n bs),some (.int x),some (.int y),some (encT s),some (encO (some (comL a b))),some (.lst true ((atN bs s).map fun (i:Nat) => D.int i)),some (.bl (Jbt (comL a b) s)),none] [] = some (.bl true,[]) :=
      Jb2 (ds := [.int n,encB (comL a b)]) (by simp [Jae,Jaj,Jad,Jap,Jbc,oIx,Jax,encH,encO]) (by simp [Jav,Ja2]) (by simp [ageL,age]) hbx
    have b2:(Jam Jci (Jab (eVar 4) (Jab (eVar 3) aNil))) [some (encH false n bs),some (.int x),some (.int y),some (encT s),some (encO (some (comL a b))),some (.lst true ((atN bs s).map fun (i:Nat) => D.int i)),some (.bl (Jbt (comL a b) s)),none] [] = some (.bl (Jbt (comL a b) s),[]) :=
      Jb2 (ds := [encB (comL a b),encT s]) (by simp [Jae,Jaj,Jad,encO]) (by simp [Jav,Ja2,pT]) (by simp [ageL,age]) hho
    have t7:(tOr (tNot (tVal (Jam Jc2 (Jab (eOp oIx (eVar 0) (eC (.int 0))) (Jab (eVar 4) aNil))))) (tVal (eOp (oEq true) (eVar 6) (Jam Jci (Jab (eVar 4) (Jab (eVar 3) aNil)))))) [some (encH false n bs),some (.int x),some (.int y),some (encT s),some (encO (some (comL a b))),some (.lst true ((atN bs s).map fun (i:Nat) => D.int i)),some (.bl (Jbt (comL a b) s)),none] [] = some (false,[]) := by
      rw [Jg1,Jg2,Jaw,b1]
      simp only [Option.bind_some,Bool.not_true,Bool.false_eq_true,if_false,Jaw,Jap,Jad,List.getElem?_cons_zero,List.getElem?_cons_succ,Option.join_some,Option.map_some,b2,Jwm]
    have s7:(sIf (tOr (tNot (tVal (Jam Jc2 (Jab (eOp oIx (eVar 0) (eC (.int 0))) (Jab (eVar 4) aNil))))) (tVal (eOp (oEq true) (eVar 6) (Jam Jci (Jab (eVar 4) (Jab (eVar 3) aNil)))))) (sRet (eC (.bl false))) sNil) [some (encH false n bs),some (.int x),some (.int y),some (encT s),some (encO (some (comL a b))),some (.lst true ((atN bs s).map fun (i:Nat) => D.int i)),some (.bl (Jbt (comL a b) s)),none] [] = some (.nx,[some (encH false n bs),some (.int x),some (.int y),some (encT s),some (encO (some (comL a b))),some (.lst true ((atN bs s).map fun (i:Nat) => D.int i)),some (.bl (Jbt (comL a b) s)),none],[]) := by
      rw [Jk7 t7]; rfl
    have s8:(sSet 7 (Jam Jba (Jab (eTup (Jab (eOp oIx (eVar 0) (eC (.int 0))) (Jab (eFrz (Jab (eVar 4) aNil)) aNil))) (Jab (eC (.int 0)) aNil)))) [some (encH false n bs),some (.int x),some (.int y),some (encT s),some (encO (some (comL a b))),some (.lst true ((atN bs s).map fun (i:Nat) => D.int i)),some (.bl (Jbt (comL a b) s)),none] [] = some (.nx,[some (encH false n bs),some (.int x),some (.int y),some (encT s),some (encO (some (comL a b))),some (.lst true ((atN bs s).map fun (i:Nat) => D.int i)),some (.bl (Jbt (comL a b) s)),some (.int (Jds (comL a b)))],[]) := by
      rw [Jau,Jb2 (ds := [encH true n [comL a b],.int 0]) (S' := []) (by simp [Jae,Jaj,Jad,Jap,Jbc,Jc7,Ja3,oIx,Jax,encH,encO]) (by simp [Jav,Ja2]) (by simp [ageL,age]) hsz]
      rfl
    rw [Jbd s6,Jbd s7,Jbd s8]
    have fin:(Jlr oLe oLe (eC (.int 1)) (eVar 7) (eCB Jjn (Jab (Jam Jba (Jab (eVar 0) (Jab (eVar 1) aNil))) (Jab (Jam Jba (Jab (eVar 0) (Jab (eVar 2) aNil))) aNil)))) [some (encH false n bs),some (.int x),some (.int y),some (encT s),some (encO (some (comL a b))),some (.lst true ((atN bs s).map fun (i:Nat) => D.int i)),some (.bl (Jbt (comL a b) s)),some (.int (Jds (comL a b)))] [] = some (.bl true,[]) := by
      have hm:Jds (comL a b) ≤ (if Jds b < Jds a then Jds b else Jds a) := by split <;> omega
      rw [Jn9]
      simp only [Jbc,Jad,Jbv,Jae,Jaj,c5,c6,Option.bind_some,List.getElem?_cons_zero,List.getElem?_cons_succ,Option.join_some,Option.map_some,oLe,oI,yes2,if_true,decide_eq_true hz1,Jjn,decide_eq_true hm]
    rw [Ja0,fin]
    rfl
end W06
end
section
set_option Elab.async false
set_option maxRecDepth 10000
set_option linter.all false
set_option maxHeartbeats 4000000
namespace W06
open PySem L2 VS
theorem Jp6 {n:Nat} {bs:List (List St2)} (g:Good n bs) (hne:bs ≠ []) {w:Nat} (hw:w < n) :
    (∀ b ∈ bs,∀ p,b[w]? = some p → (Jfp bs w).1 ≤ p.1 ∧ p.2 ≤ (Jfp bs w).2) ∧ (Jfp bs w).1 < (Jfp bs w).2 ∧ -1000000000 ≤ (Jfp bs w).1 ∧ (Jfp bs w).2 ≤ 1000000000 := by
  obtain ⟨l1,l2⟩ := Jta (Jp4 hne w)
  obtain ⟨h1,h2⟩ := Jpf (Jp5 hne w)
  have at_:∀ b ∈ bs,∃ p,b[w]? = some p ∧ b.getD w (0,0) = p ∧ p.1 < p.2 ∧ -1000000000 ≤ p.1 ∧ p.2 ≤ 1000000000 := fun b hb => by
    obtain ⟨hl,hp⟩ := g.box b hb
    have hlt:w < b.length := by omega
    exact ⟨b[w],List.getElem?_eq_getElem hlt,by rw [List.getD_eq_getElem?_getD,List.getElem?_eq_getElem hlt]; rfl,hp _ (List.getElem_mem hlt)⟩
  have in_:∀ b ∈ bs,∀ p,b[w]? = some p → (Jfp bs w).1 ≤ p.1 ∧ p.2 ≤ (Jfp bs w).2 := fun b hb p hp => by
    obtain ⟨q,e1,e2,_⟩ := at_ b hb
    rw [hp] at e1
    cases e1
    have a1 := l2 (b.getD w (0,0)).1 (List.mem_map.mpr ⟨b,hb,rfl⟩)
    have a2 := h2 (b.getD w (0,0)).2 (List.mem_map.mpr ⟨b,hb,rfl⟩)
    rw [e2] at a1 a2
    exact ⟨a1,a2⟩
  obtain ⟨b1,hb1,q1⟩ := List.mem_map.mp l1
  obtain ⟨b2,hb2,q2⟩ := List.mem_map.mp h1
  obtain ⟨p1,e1,e2,e3⟩ := at_ b1 hb1
  obtain ⟨p2,f1,f2,f3⟩ := at_ b2 hb2
  rw [e2] at q1
  rw [f2] at q2
  have := in_ b1 hb1 p1 e1
  exact ⟨in_,by omega,by omega,by omega⟩
theorem Jr9 {n:Nat} {bs:List (List St2)} (g:Good n bs) {b:List St2} (hb:b ∈ bs):∃ sp,Jsa n bs = some sp ∧ Good n [b,sp] ∧ comO b sp = some b := by
  have hne:bs ≠ [] := fun h => by rw [h] at hb; simp at hb
  have n3 := g.n3
  obtain ⟨lb,gb⟩ := g.box b hb
  refine ⟨(List.range n).map (Jfp bs),by unfold Jsa; rw [if_neg hne],⟨g.ways,by rcases g.ways with h | h | h <;> subst h <;> simp,fun q hq => ?_⟩,?_⟩
  · have:q = b ∨ q = (List.range n).map (Jfp bs) := by simpa using hq
    rcases this with rfl | rfl
    · exact ⟨lb,gb⟩
    · refine ⟨by simp,fun p hp => ?_⟩
      obtain ⟨w,hw,rfl⟩ := List.mem_map.mp hp
      exact (Jp6 g hne (List.mem_range.mp hw)).2
  · have e:comL b ((List.range n).map (Jfp bs)) = b := Joa _ _ (by simp; omega) fun i p q hp hq => by
      rw [List.getElem?_map] at hq
      obtain ⟨w,hw,rfl⟩ := Option.map_eq_some_iff.mp hq
      have hi:i < n := by have := (List.getElem?_eq_some_iff.mp hp).1; omega
      rw [List.getElem?_range hi] at hw
      cases hw
      exact (Jp6 g hne hi).1 b hb p hp
    unfold comO
    rw [e,if_pos (Js3 fun p hp => (gb p hp).1)]
theorem Jr6 (s:List Nat):toPL (s.map fun (i:Nat) => D.int i) = some (s.map fun (i:Nat) => PyData.int i) := by
  have := Jkc (s.map fun (i:Nat) => (i:Int))
  rw [List.map_map,List.map_map] at this
  exact this
theorem Jqd (S:Store) (m:Bool) (l:List Nat):seeP S (.lst m (l.map fun (i:Nat) => D.int i)) = some (.list (l.map fun (i:Nat) => PyData.int i)) := by
  have hd:denL 0 S (l.map fun (i:Nat) => D.int i) = some (l.map fun (i:Nat) => D.int i) := by
    have := Jbn 0 S (Jeu (l.map fun (i:Nat) => (i:Int)))
    rw [List.map_map] at this
    exact this
  rw [seeP,den,hd]
  show toP (.lst m _) = _
  rw [toP,Jr6]; rfl
theorem Jvs (l:List Nat):lev 1 (.list (l.map fun (i:Nat) => PyData.int i)) = true := by
  rw [lev,List.all_map,List.all_eq_true]
  exact fun _ _ => rfl
theorem Jq2 (S:Store) (m m':Bool) (l:List Nat):oEq true S (.lst m (l.map fun (i:Nat) => D.int i)) (.lst m' (l.map fun (i:Nat) => D.int i)) = some (.bl false) := Jj9 1 (Jqd S m l) (Jqd S m' l) (Jvs l) (by decide)
theorem Jwk {n:Nat} {bs:List (List St2)} (g:Good n bs):Good n bs.reverse := ⟨g.ways,by rw [List.length_reverse]; exact g.most,fun b hb => g.box b (List.mem_reverse.mp hb)⟩
def E1 (ns:List Int) (c:D) (w:Nat) (n:Nat) (bs:List (List St2)) (k:Int) (mir:Bool) (ws:List Nat) (z9 z10 z11 z12 z13 z14 z15 z16 z17:Option D):VS.Env :=
  [some (.scr ns),some c,some (.ref w),some (encH true n bs),some (.int bs.length),some (.int k),some (.bl mir),some (encW true ws),some (encH true n (bs.map (movB k mir ws))),z9,z10,z11,z12,z13,z14,z15,z16,z17]
theorem Js4 (ns:List Int) (c:D) (w:Nat) {n:Nat} {bs:List (List St2)} (g:Jr1 n bs) {k:Int} (h0:-100000000 ≤ k) (h1:k ≤ 100000000) (mir:Bool) {ws:List Nat} (h:WS n ws) (z9 z10 z11 z12 z13 z14 z15 z17:Option D) (i:Nat) (hi:i < bs.length) (S:Store) :
    ∃ z17',Jqt (E1 ns c w n bs k mir ws z9 z10 z11 z12 z13 z14 z15 (some (.int i)) z17) S = some (.nx,E1 ns c w n bs k mir ws z9 z10 z11 z12 z13 z14 z15 (some (.int i)) z17',S) := by
  have gg := g.good
  have hg := List.getElem?_eq_getElem hi
  obtain ⟨sp,e1,e2,e3⟩ := Jr9 gg (List.getElem_mem hi)
  have k1 := Ji2 e2 (i := 0) (j := 1) rfl rfl
  rw [e3] at k1
  have k2 := Jx6 gg
  rw [e1] at k2
  have k3 := Jf1 gg hg
  have gm := Jmb g h0 h1 mir h
  have hg2:(bs.map (movB k mir ws))[i]? = some (movB k mir ws bs[i]) := by rw [List.getElem?_map,hg]; rfl
  have k4 := Jf1 gm hg2
  rw [Jvm (gg.box _ (List.getElem_mem hi)).1 k mir h] at k4
  have aa:atI (bs.map encB) (i:Int) = some (encB bs[i]) := Jgv (by rw [List.getElem?_map,hg]; rfl)
  generalize (i:Int) = x at *
  have eb:∀ z17,(eOp oIx (eOp oIx (eVar 3) (eC (.int 1))) (eVar 16)) (E1 ns c w n bs k mir ws z9 z10 z11 z12 z13 z14 z15 (some (.int x)) z17) S = some (encB bs[i],S) := fun z17 => by
    simp [E1,Jap,Jad,Jbc,encH,oIx,Jax,VS.listOf,aa]
  have es:∀ z17,(Jam Jcx (Jab (eVar 3) aNil)) (E1 ns c w n bs k mir ws z9 z10 z11 z12 z13 z14 z15 (some (.int x)) z17) S = some (encB sp,S) := fun z17 =>
    Jb2 (ds := [encH true n bs]) (by simp [E1,Jae,Jaj,Jad]) (by simp [Jav]) (by simp [ageL]) k2
  have eh:∀ z17,(eOp oIx (eVar 3) (eC (.int 0))) (E1 ns c w n bs k mir ws z9 z10 z11 z12 z13 z14 z15 (some (.int x)) z17) S = some (.int n,S) := fun z17 => by
    simp [E1,Jap,Jad,Jbc,encH,oIx,Jax]
  have ec:(Jam Ja1 (Jab (eTup (Jab (eOp oIx (eVar 3) (eC (.int 0))) (Jab (eFrz (Jab (eOp oIx (eOp oIx (eVar 3) (eC (.int 1))) (eVar 16)) (Jab (Jam Jcx (Jab (eVar 3) aNil)) aNil))) aNil))) (Jab (eC (.int 0)) (Jab (eC (.int 1)) aNil)))) (E1 ns c w n bs k mir ws z9 z10 z11 z12 z13 z14 z15 (some (.int x)) z17) S = some (encB bs[i],S) :=
    Jb2 (ds := [encH true n [bs[i],sp],.int 0,.int 1]) (by
      rw [Jae,Jc7,Jae,eh]
      simp only [Option.bind_some,Jae,Jaj,Ja3,eb,es,Jbc]
      rfl) (by simp [Jav,Ja2]) (by simp [ageL,age]) k1
  have s1:(sSet 17 (Jam Ja1 (Jab (eTup (Jab (eOp oIx (eVar 3) (eC (.int 0))) (Jab (eFrz (Jab (eOp oIx (eOp oIx (eVar 3) (eC (.int 1))) (eVar 16)) (Jab (Jam Jcx (Jab (eVar 3) aNil)) aNil))) aNil))) (Jab (eC (.int 0)) (Jab (eC (.int 1)) aNil))))) (E1 ns c w n bs k mir ws z9 z10 z11 z12 z13 z14 z15 (some (.int x)) z17) S = some (.nx,E1 ns c w n bs k mir ws z9 z10 z11 z12 z13 z14 z15 (some (.int x)) (some (encB bs[i])),S) := by
    rw [Jau,ec]; rfl
  have t2:(tVal (eOp (oEq true) (eVar 17) (eOp oIx (eOp oIx (eVar 3) (eC (.int 1))) (eVar 16)))) (E1 ns c w n bs k mir ws z9 z10 z11 z12 z13 z14 z15 (some (.int x)) (some (encB bs[i]))) S = some (false,S) := by
    rw [Jaw,Jap,Jad]
    have:(E1 ns c w n bs k mir ws z9 z10 z11 z12 z13 z14 z15 (some (.int x)) (some (encB bs[i])))[17]?.join = some (encO (some bs[i])) := rfl
    rw [this]
    simp only [Option.map_some,Option.bind_some,eb]
    have q := Jmo true S (some bs[i])
    rw [show encB bs[i] = encO (some bs[i]) from rfl,q]
    rfl
  have f1:(Jam Jba (Jab (eVar 8) (Jab (eVar 16) aNil))) (E1 ns c w n bs k mir ws z9 z10 z11 z12 z13 z14 z15 (some (.int x)) (some (encB bs[i]))) S = some (.int (Jds bs[i]),S) :=
    Jb2 (ds := [encH true n (bs.map (movB k mir ws)),.int x]) (by simp [E1,Jae,Jaj,Jad]) (by simp [Jav,Ja2]) (by simp [ageL,age]) k4
  have f2:(Jam Jba (Jab (eVar 3) (Jab (eVar 16) aNil))) (E1 ns c w n bs k mir ws z9 z10 z11 z12 z13 z14 z15 (some (.int x)) (some (encB bs[i]))) S = some (.int (Jds bs[i]),S) :=
    Jb2 (ds := [encH true n bs,.int x]) (by simp [E1,Jae,Jaj,Jad]) (by simp [Jav,Ja2]) (by simp [ageL,age]) k3
  have t3:(tVal (eOp (oEq true) (Jam Jba (Jab (eVar 8) (Jab (eVar 16) aNil))) (Jam Jba (Jab (eVar 3) (Jab (eVar 16) aNil))))) (E1 ns c w n bs k mir ws z9 z10 z11 z12 z13 z14 z15 (some (.int x)) (some (encB bs[i]))) S = some (false,S) := by
    rw [Jaw,Jap,f1]
    simp only [Option.bind_some,f2,oEq,Option.map_some]
    simp
  unfold Jqt
  refine ⟨some (encB bs[i]),?_⟩
  rw [Jbd s1,Jbu,Jk7 t2,Jbe]
  show (sIf _ _ _) _ _ = _
  rw [Jk7 t3]
  rfl
end W06
end
section
set_option Elab.async false
set_option maxRecDepth 10000
set_option linter.all false
set_option maxHeartbeats 4000000
namespace W06
open PySem L2 VS
def SW (S0:Store) (x y:Int):Store := S0 ++ [some [.int x,.int y]]
theorem Jkz {e:VS.Env} {S0:Store} {x y:Int} {k:Nat} {a:ESem} (m:Int) (h0:0 < m) (h1:m < 2 ^ 63) (hk:e[k]? = some (some (.ref S0.length))) (ha:a e (SW S0 x y) = some (.int m,SW S0 x y)) :
    ∃ r x' y',(Ja4 Jah (Jab (eVar k) (Jab a aNil))) e (SW S0 x y) = some (.int r,SW S0 x' y') ∧ 0 ≤ r ∧ r < m := by
  obtain ⟨r,x',y',e1,r0,r1⟩ := Jcu x y m h0 h1
  refine ⟨r,x',y',?_,r0,r1⟩
  have := Jmv (sem := Jah) (a := Jab (eVar k) (Jab a aNil)) (env := e) (S := SW S0 x y) (S' := SW S0 x y) (i := S0.length) (ns := [x,y]) (rest := [.int m]) (es := [.int m]) (by rw [Jae,Jad,hk]; simp only [Option.join_some,Option.map_some,Option.bind_some,Jae,ha,Jaj]) (end0 _ _ _) (by simp [Jav,Ja2]) (by simp [ageL,age]) e1
  rw [this]
  unfold SW
  rw [set0]
  rfl
theorem Jx0 (ns:List Int) (c:D) (S0:Store) {n:Nat} {bs:List (List St2)} (g:Jr1 n bs) {k:Int} (h0:-100000000 ≤ k) (h1:k ≤ 100000000) (mir:Bool) {ws:List Nat} (h:WS n ws) (z9 z10 z11 z12 z13 z14 z15 z16 z17:Option D) (x y:Int) :
    ∃ z10' z11' z12' z13' z14' z15' x' y',Jqu (E1 ns c S0.length n bs k mir ws z9 z10 z11 z12 z13 z14 z15 z16 z17) (SW S0 x y) = some (.nx,E1 ns c S0.length n bs k mir ws z9 z10' z11' z12' z13' z14' z15' z16 z17,SW S0 x' y') := by
  have gg := g.good
  have n3 := gg.n3
  have few := gg.few
  have gm := Jmb g h0 h1 mir h
  obtain ⟨s0,x1,y1,p1,hs0⟩ := Jx4 x y gg
  have q1:(Ja4 Jcv (Jab (eVar 2) (Jab (eVar 3) aNil))) (E1 ns c S0.length n bs k mir ws z9 z10 z11 z12 z13 z14 z15 z16 z17) (SW S0 x y) = some (encT s0,SW S0 x1 y1) := by
    have := Jmv (sem := Jcv) (a := Jab (eVar 2) (Jab (eVar 3) aNil)) (env := E1 ns c S0.length n bs k mir ws z9 z10 z11 z12 z13 z14 z15 z16 z17) (S := SW S0 x y) (S' := SW S0 x y) (i := S0.length) (ns := [x,y]) (rest := [encH true n bs]) (es := [encH false n bs]) (by simp [E1,Jae,Jaj,Jad]) (end0 _ _ _) (by simp [Jav]) (by simp [ageL]) p1
    rw [this]
    unfold SW
    rw [set0]
    rfl
  have q2:Jqr (E1 ns c S0.length n bs k mir ws z9 z10 z11 z12 z13 z14 z15 z16 z17) (SW S0 x y) = some ((s0.map (· / 2)).map .int,SW S0 x1 y1) := by
    have e:iSeq (Ja4 Jcv (Jab (eVar 2) (Jab (eVar 3) aNil))) (E1 ns c S0.length n bs k mir ws z9 z10 z11 z12 z13 z14 z15 z16 z17) (SW S0 x y) = some ((s0.map D.int,[]),SW S0 x1 y1) := by
      rw [Jcz,q1]; simp [encT,Jax,VS.idOf]
    unfold Jqr Jcg
    rw [e,List.map_map]
    simp only [Option.bind_some]
    exact Jez (by simp) _ _ _ (by omega) fun i hi => ⟨[some (.int i)],by simp [Jct,capE],by simp [Jad,Jbc,Jap,oI,cDiv,oDiv,-List.map_map,-Option.map_bind]⟩
  have hs:(s0.map (· / 2)).length = n := by rw [List.length_map]; exact hs0
  generalize s0.map (· / 2) = s at *
  have s10:(sSet 10 (eCB bTup (Jab (eFrz Jqr) aNil))) (E1 ns c S0.length n bs k mir ws z9 z10 z11 z12 z13 z14 z15 z16 z17) (SW S0 x y) = some (.nx,E1 ns c S0.length n bs k mir ws z9 (some (encT s)) z11 z12 z13 z14 z15 z16 z17,SW S0 x1 y1) := by
    rw [Jau,Jbv,Jae,Ja3,q2]
    simp only [Option.bind_some,Jaj,bTup,Jax,VS.listOf,Option.map_some]
    rfl
  have ka := Jfo gg hs
  have ko := Jnx gg hs
  have km := Jly hs (by omega) (by omega) k mir h
  have hms:(movT k mir ws s).length = n := by rw [movT,List.length_map,h.len]
  have kb := Jfo gm hms
  rw [Jz4 (fun b hb => (gg.box b hb).1) hs k mir h] at kb
  have kr := Jfo (Jwk gg) hs
  have pT := Jfg s
  have pM := Jfg (movT k mir ws s)
  have pW:Ja2 (encW true ws) = true ∧ age (encW true ws) = encW false ws := by
    have h1 := Jeu (ws.map fun (i:Nat) => (i:Int))
    have h2 := Jk5 (ws.map fun (i:Nat) => (i:Int))
    rw [List.map_map] at h1 h2
    constructor
    · rw [encW,Ja2]; exact h1
    · rw [encW,age]
      show D.lst false (ageL _) = _
      rw [show (ws.map fun (w:Nat) => D.int w) = ws.map (D.int ∘ fun (i:Nat) => (i:Int)) from rfl,h2]; rfl
  have f11:∀ z11 z12 z13 z14 z15,(Jam Jay (Jab (eVar 3) (Jab (eVar 10) aNil))) (E1 ns c S0.length n bs k mir ws z9 (some (encT s)) z11 z12 z13 z14 z15 z16 z17) (SW S0 x1 y1) = some (.lst true ((atN bs s).map fun (i:Nat) => D.int i),SW S0 x1 y1) := fun z11 z12 z13 z14 z15 =>
    Jb2 (ds := [encH true n bs,encT s]) (by simp [E1,Jae,Jaj,Jad]) (by simp [Jav,pT]) (by simp [ageL]) ka
  have s11:(sSet 11 (Jam Jay (Jab (eVar 3) (Jab (eVar 10) aNil)))) (E1 ns c S0.length n bs k mir ws z9 (some (encT s)) z11 z12 z13 z14 z15 z16 z17) (SW S0 x1 y1) = some (.nx,E1 ns c S0.length n bs k mir ws z9 (some (encT s)) (some (.lst true ((atN bs s).map fun (i:Nat) => D.int i))) z12 z13 z14 z15 z16 z17,SW S0 x1 y1) := by
    rw [Jau,f11]; rfl
  have s12:(sSet 12 (Jam Jb4 (Jab (eVar 10) (Jab (eVar 5) (Jab (eVar 6) (Jab (eVar 7) aNil)))))) (E1 ns c S0.length n bs k mir ws z9 (some (encT s)) (some (.lst true ((atN bs s).map fun (i:Nat) => D.int i))) z12 z13 z14 z15 z16 z17) (SW S0 x1 y1) = some (.nx,E1 ns c S0.length n bs k mir ws z9 (some (encT s)) (some (.lst true ((atN bs s).map fun (i:Nat) => D.int i))) (some (encT (movT k mir ws s))) z13 z14 z15 z16 z17,SW S0 x1 y1) := by
    rw [Jau,Jb2 (ds := [encT s,.int k,.bl mir,encW true ws]) (S' := SW S0 x1 y1) (by simp [E1,Jae,Jaj,Jad]) (by simp [Jav,Ja2,pT,pW]) (by simp [ageL,age,pW]) km]
    rfl
  have f13:(Jam Jcj (Jab (eVar 3) (Jab (eVar 10) aNil))) (E1 ns c S0.length n bs k mir ws z9 (some (encT s)) (some (.lst true ((atN bs s).map fun (i:Nat) => D.int i))) (some (encT (movT k mir ws s))) z13 z14 z15 z16 z17) (SW S0 x1 y1) = some (.int (atN bs s).length,SW S0 x1 y1) :=
    Jb2 (ds := [encH true n bs,encT s]) (by simp [E1,Jae,Jaj,Jad]) (by simp [Jav,pT]) (by simp [ageL]) ko
  have f14:(Jam Jay (Jab (eVar 8) (Jab (eVar 12) aNil))) (E1 ns c S0.length n bs k mir ws z9 (some (encT s)) (some (.lst true ((atN bs s).map fun (i:Nat) => D.int i))) (some (encT (movT k mir ws s))) z13 z14 z15 z16 z17) (SW S0 x1 y1) = some (.lst true ((atN bs s).map fun (i:Nat) => D.int i),SW S0 x1 y1) :=
    Jb2 (ds := [encH true n (bs.map (movB k mir ws)),encT (movT k mir ws s)]) (by simp [E1,Jae,Jaj,Jad]) (by simp [Jav,pM]) (by simp [ageL]) kb
  have v11:∀ z12 z13 z14 z15,(eVar 11) (E1 ns c S0.length n bs k mir ws z9 (some (encT s)) (some (.lst true ((atN bs s).map fun (i:Nat) => D.int i))) z12 z13 z14 z15 z16 z17) (SW S0 x1 y1) = some (.lst true ((atN bs s).map fun (i:Nat) => D.int i),SW S0 x1 y1) := fun z12 z13 z14 z15 => by
    rw [Jad]; rfl
  have f15:(eCB bLen (Jab (eVar 11) aNil)) (E1 ns c S0.length n bs k mir ws z9 (some (encT s)) (some (.lst true ((atN bs s).map fun (i:Nat) => D.int i))) (some (encT (movT k mir ws s))) z13 z14 z15 z16 z17) (SW S0 x1 y1) = some (.int (atN bs s).length,SW S0 x1 y1) := by
    rw [Jbv,Jae,v11]
    simp [Jaj,bLen,Jax,VS.listOf]
  have t13:(tOr (tVal (eOp (oEq true) (Jam Jcj (Jab (eVar 3) (Jab (eVar 10) aNil))) (eCB bLen (Jab (eVar 11) aNil)))) (tVal (eOp (oEq true) (Jam Jay (Jab (eVar 8) (Jab (eVar 12) aNil))) (eVar 11)))) (E1 ns c S0.length n bs k mir ws z9 (some (encT s)) (some (.lst true ((atN bs s).map fun (i:Nat) => D.int i))) (some (encT (movT k mir ws s))) z13 z14 z15 z16 z17) (SW S0 x1 y1) = some (false,SW S0 x1 y1) := by
    have a1:(tVal (eOp (oEq true) (Jam Jcj (Jab (eVar 3) (Jab (eVar 10) aNil))) (eCB bLen (Jab (eVar 11) aNil)))) (E1 ns c S0.length n bs k mir ws z9 (some (encT s)) (some (.lst true ((atN bs s).map fun (i:Nat) => D.int i))) (some (encT (movT k mir ws s))) z13 z14 z15 z16 z17) (SW S0 x1 y1) = some (false,SW S0 x1 y1) := by
      rw [Jaw,Jap,f13]
      simp only [Option.bind_some,f15,oEq,Option.map_some]
      simp
    have a2:(tVal (eOp (oEq true) (Jam Jay (Jab (eVar 8) (Jab (eVar 12) aNil))) (eVar 11))) (E1 ns c S0.length n bs k mir ws z9 (some (encT s)) (some (.lst true ((atN bs s).map fun (i:Nat) => D.int i))) (some (encT (movT k mir ws s))) z13 z14 z15 z16 z17) (SW S0 x1 y1) = some (false,SW S0 x1 y1) := by
      rw [Jaw,Jap,f14]
      simp only [Option.bind_some,v11,Jq2,Option.map_some]
    rw [Jg1,a1,Option.bind_some]
    exact a2
  have q3:Jqq (E1 ns c S0.length n bs k mir ws z9 (some (encT s)) (some (.lst true ((atN bs s).map fun (i:Nat) => D.int i))) (some (encT (movT k mir ws s))) z13 z14 z15 z16 z17) (SW S0 x1 y1) = some ((atN bs.reverse s).map (fun (i:Nat) => D.int i),SW S0 x1 y1) := by
    have e:iSeq (eUn Jh5 (eVar 11)) (E1 ns c S0.length n bs k mir ws z9 (some (encT s)) (some (.lst true ((atN bs s).map fun (i:Nat) => D.int i))) (some (encT (movT k mir ws s))) z13 z14 z15 z16 z17) (SW S0 x1 y1) = some (((atN bs s).reverse.map (fun (i:Nat) => D.int i),[]),SW S0 x1 y1) := by
      rw [Jcz,Jiy,v11]
      simp [Jh5,Jax,VS.listOf,VS.idOf]
    have hfew:(atN bs s).reverse.length ≤ 1000000 := by
      have:(atN bs s).length ≤ bs.length := by
        unfold atN
        rw [List.length_map]
        exact Nat.le_trans (List.length_filter_le ..) (by simp)
      rw [List.length_reverse]
      omega
    unfold Jqq Jcg
    rw [e,Jue,List.map_map]
    simp only [Option.bind_some]
    refine Jez (by simp) _ _ _ hfew fun i hi => ⟨[some (.int i),some (.int bs.length)],by simp [Jct,capE,E1],?_⟩
    have hlt := JCn (List.mem_reverse.mp hi)
    have hx:(((bs.length - 1 - i:Nat)):Int) = (bs.length:Int) - 1 - i := by omega
    show _ = some (D.int (((bs.length - 1 - i:Nat)):Int),_)
    rw [hx]
    simp [Jad,Jbc,Jap,oI,yes2,oSub,-List.map_map,-Option.map_bind]
  have s14:(sSet 13 (eFrz Jqq)) (E1 ns c S0.length n bs k mir ws z9 (some (encT s)) (some (.lst true ((atN bs s).map fun (i:Nat) => D.int i))) (some (encT (movT k mir ws s))) z13 z14 z15 z16 z17) (SW S0 x1 y1) = some (.nx,E1 ns c S0.length n bs k mir ws z9 (some (encT s)) (some (.lst true ((atN bs s).map fun (i:Nat) => D.int i))) (some (encT (movT k mir ws s))) (some (.lst true ((atN bs.reverse s).map fun (i:Nat) => D.int i))) z14 z15 z16 z17,SW S0 x1 y1) := by
    rw [Jau,Ja3,q3]; rfl
  have f16:(Jam Jay (Jab (eTup (Jab (eOp oIx (eVar 3) (eC (.int 0))) (Jab (eUn Jh5 (eOp oIx (eVar 3) (eC (.int 1)))) aNil))) (Jab (eVar 10) aNil))) (E1 ns c S0.length n bs k mir ws z9 (some (encT s)) (some (.lst true ((atN bs s).map fun (i:Nat) => D.int i))) (some (encT (movT k mir ws s))) (some (.lst true ((atN bs.reverse s).map fun (i:Nat) => D.int i))) z14 z15 z16 z17) (SW S0 x1 y1) = some (.lst true ((atN bs.reverse s).map fun (i:Nat) => D.int i),SW S0 x1 y1) :=
    Jb2 (ds := [encH true n bs.reverse,encT s]) (by simp [E1,Jae,Jaj,Jad,Jc7,Jap,Jiy,Jbc,oIx,Jh5,Jax,VS.listOf,encH]) (by simp [Jav,pT]) (by simp [ageL]) kr
  have t15:(tVal (eOp (oEq true) (Jam Jay (Jab (eTup (Jab (eOp oIx (eVar 3) (eC (.int 0))) (Jab (eUn Jh5 (eOp oIx (eVar 3) (eC (.int 1)))) aNil))) (Jab (eVar 10) aNil))) (eVar 13))) (E1 ns c S0.length n bs k mir ws z9 (some (encT s)) (some (.lst true ((atN bs s).map fun (i:Nat) => D.int i))) (some (encT (movT k mir ws s))) (some (.lst true ((atN bs.reverse s).map fun (i:Nat) => D.int i))) z14 z15 z16 z17) (SW S0 x1 y1) = some (false,SW S0 x1 y1) := by
    rw [Jaw,Jap,f16]
    have v13:(eVar 13) (E1 ns c S0.length n bs k mir ws z9 (some (encT s)) (some (.lst true ((atN bs s).map fun (i:Nat) => D.int i))) (some (encT (movT k mir ws s))) (some (.lst true ((atN bs.reverse s).map fun (i:Nat) => D.int i))) z14 z15 z16 z17) (SW S0 x1 y1) = some (.lst true ((atN bs.reverse s).map fun (i:Nat) => D.int i),SW S0 x1 y1) := by rw [Jad]; rfl
    simp only [Option.bind_some,v13,Jq2,Option.map_some]
  have fmx:∀ z14 z15 x y,(eCB Jg0 (Jab (eC (.int 1)) (Jab (eVar 4) aNil))) (E1 ns c S0.length n bs k mir ws z9 (some (encT s)) (some (.lst true ((atN bs s).map fun (i:Nat) => D.int i))) (some (encT (movT k mir ws s))) (some (.lst true ((atN bs.reverse s).map fun (i:Nat) => D.int i))) z14 z15 z16 z17) (SW S0 x y) = some (.int (mx 1 bs.length),SW S0 x y) := fun z14 z15 x y => by
    simp [E1,Jbv,Jae,Jaj,Jbc,Jad,Jg0,mx]
  have hm:0 < mx 1 (bs.length:Int) ∧ mx 1 (bs.length:Int) < 2 ^ 63 := by unfold mx; split <;> omega
  obtain ⟨r1,x2,y2,d1,r10,r11⟩ := Jkz (k := 2) (mx 1 bs.length) hm.1 hm.2 rfl (fmx z14 z15 x1 y1)
  obtain ⟨r2,x3,y3,d2,r20,r21⟩ := Jkz (k := 2) (mx 1 bs.length) hm.1 hm.2 rfl (fmx (some (.int r1)) z15 x2 y2)
  have s16:(sSet 14 (Ja4 Jah (Jab (eVar 2) (Jab (eCB Jg0 (Jab (eC (.int 1)) (Jab (eVar 4) aNil))) aNil)))) (E1 ns c S0.length n bs k mir ws z9 (some (encT s)) (some (.lst true ((atN bs s).map fun (i:Nat) => D.int i))) (some (encT (movT k mir ws s))) (some (.lst true ((atN bs.reverse s).map fun (i:Nat) => D.int i))) z14 z15 z16 z17) (SW S0 x1 y1) = some (.nx,E1 ns c S0.length n bs k mir ws z9 (some (encT s)) (some (.lst true ((atN bs s).map fun (i:Nat) => D.int i))) (some (encT (movT k mir ws s))) (some (.lst true ((atN bs.reverse s).map fun (i:Nat) => D.int i))) (some (.int r1)) z15 z16 z17,SW S0 x2 y2) := by
    rw [Jau,d1]; rfl
  have s17:(sSet 15 (Ja4 Jah (Jab (eVar 2) (Jab (eCB Jg0 (Jab (eC (.int 1)) (Jab (eVar 4) aNil))) aNil)))) (E1 ns c S0.length n bs k mir ws z9 (some (encT s)) (some (.lst true ((atN bs s).map fun (i:Nat) => D.int i))) (some (encT (movT k mir ws s))) (some (.lst true ((atN bs.reverse s).map fun (i:Nat) => D.int i))) (some (.int r1)) z15 z16 z17) (SW S0 x2 y2) = some (.nx,E1 ns c S0.length n bs k mir ws z9 (some (encT s)) (some (.lst true ((atN bs s).map fun (i:Nat) => D.int i))) (some (encT (movT k mir ws s))) (some (.lst true ((atN bs.reverse s).map fun (i:Nat) => D.int i))) (some (.int r1)) (some (.int r2)) z16 z17,SW S0 x3 y3) := by
    rw [Jau,d2]; rfl
  have t18:(tAnd (tVal (eOp oGt (eVar 4) (eC (.int 0)))) (tNot (tVal (Jam Jb0 (Jab (eVar 3) (Jab (eVar 14) (Jab (eVar 15) (Jab (eVar 10) aNil)))))))) (E1 ns c S0.length n bs k mir ws z9 (some (encT s)) (some (.lst true ((atN bs s).map fun (i:Nat) => D.int i))) (some (encT (movT k mir ws s))) (some (.lst true ((atN bs.reverse s).map fun (i:Nat) => D.int i))) (some (.int r1)) (some (.int r2)) z16 z17) (SW S0 x3 y3) = some (false,SW S0 x3 y3) := by
    have v4:(tVal (eOp oGt (eVar 4) (eC (.int 0)))) (E1 ns c S0.length n bs k mir ws z9 (some (encT s)) (some (.lst true ((atN bs s).map fun (i:Nat) => D.int i))) (some (encT (movT k mir ws s))) (some (.lst true ((atN bs.reverse s).map fun (i:Nat) => D.int i))) (some (.int r1)) (some (.int r2)) z16 z17) (SW S0 x3 y3) = some (decide (0 < bs.length),SW S0 x3 y3) := by
      simp [E1,Jaw,Jap,Jad,Jbc,oGt,oI,yes2]
    rw [Jlx,v4,Option.bind_some]
    by_cases hz:0 < bs.length
    · rw [decide_eq_true hz]
      have hmm:mx 1 (bs.length:Int) = bs.length := by unfold mx; split <;> omega
      rw [hmm] at r11 r21
      have g1 := List.getElem?_eq_getElem (l := bs) (i := r1.toNat) (by omega)
      have g2 := List.getElem?_eq_getElem (l := bs) (i := r2.toNat) (by omega)
      have k2 := JAg gg g1 g2 hs
      rw [Int.toNat_of_nonneg r10,Int.toNat_of_nonneg r20] at k2
      have f18:(Jam Jb0 (Jab (eVar 3) (Jab (eVar 14) (Jab (eVar 15) (Jab (eVar 10) aNil))))) (E1 ns c S0.length n bs k mir ws z9 (some (encT s)) (some (.lst true ((atN bs s).map fun (i:Nat) => D.int i))) (some (encT (movT k mir ws s))) (some (.lst true ((atN bs.reverse s).map fun (i:Nat) => D.int i))) (some (.int r1)) (some (.int r2)) z16 z17) (SW S0 x3 y3) = some (.bl true,SW S0 x3 y3) :=
        Jb2 (ds := [encH true n bs,.int r1,.int r2,encT s]) (by simp [E1,Jae,Jaj,Jad]) (by simp [Jav,Ja2,pT]) (by simp [ageL,age]) k2
      show (VS.tNot _) _ _ = _
      rw [Jg2,Jaw,f18]
      rfl
    · rw [decide_eq_false hz]; rfl
  refine ⟨some (encT s),some (.lst true ((atN bs s).map fun (i:Nat) => D.int i)),some (encT (movT k mir ws s)),some (.lst true ((atN bs.reverse s).map fun (i:Nat) => D.int i)),some (.int r1),some (.int r2),x3,y3,?_⟩
  unfold Jqu
  rw [Jbd s10,Jbd s11,Jbd s12,Jbu,Jk7 t13,Jbe]
  show (sSeq _ _) _ _ = _
  rw [Jbd s14,Jbu,Jk7 t15,Jbe]
  show (sSeq _ _) _ _ = _
  rw [Jbd s16,Jbd s17,Jk7 t18]
  rfl
end W06
end
section
set_option Elab.async false
set_option maxRecDepth 10000
set_option linter.all false
set_option maxHeartbeats 4000000
namespace W06
open PySem L2 VS
def Jop (n:Nat):List Nat := if n = 1 then [0] else if n = 2 then [0,1] else [0,1,2]
theorem Jz0 (ns:List Int) (c:Int) (z2 z3 z4 z5 z6 z7 z8 z9 z10 z11 z12 z13 z14 z15 z16 z17:Option D) (S:Store) :
    ∃ y2 y3 y4 y5 y6 y7 y8 y9 y10 y11 y12 y13 y14 y15 y16 y17 S',Jqs [some (.scr ns),some (.int c),z2,z3,z4,z5,z6,z7,z8,z9,z10,z11,z12,z13,z14,z15,z16,z17] S = some (.nx,[some (.scr ns),some (.int c),y2,y3,y4,y5,y6,y7,y8,y9,y10,y11,y12,y13,y14,y15,y16,y17],S') := by
  obtain ⟨x,y,w⟩ := Jxw c
  obtain ⟨n,b0,x1,y1,hh,g0⟩ := Jm4 x y
  have hf := Jzt g0
  have g := Jtu g0
  generalize b0.map Jml = bs at *
  have gg := g.good
  have n3 := gg.n3
  have few := gg.few
  have s1:(sSet 2 (Jn7 Jdm (Jab (eVar 1) aNil))) [some (.scr ns),some (.int c),z2,z3,z4,z5,z6,z7,z8,z9,z10,z11,z12,z13,z14,z15,z16,z17] S = some (.nx,[some (.scr ns),some (.int c),some (.ref S.length),z3,z4,z5,z6,z7,z8,z9,z10,z11,z12,z13,z14,z15,z16,z17],SW S x y) := by
    rw [Jau,Jux (Jb2 (ds := [.int c]) (S' := S) (by simp [Jae,Jaj,Jad]) (by simp [Jav,Ja2]) (by simp [ageL,age]) w) (by simp [thaw,Jew,Jdl]; exact ⟨rfl,rfl⟩)]
    simp [SW]
  have q2:(Ja4 Jbb (Jab (eVar 2) aNil)) [some (.scr ns),some (.int c),some (.ref S.length),z3,z4,z5,z6,z7,z8,z9,z10,z11,z12,z13,z14,z15,z16,z17] (SW S x y) = some (encH true n b0,SW S x1 y1) := by
    have := Jmv (sem := Jbb) (a := Jab (eVar 2) aNil) (env := [some (.scr ns),some (.int c),some (.ref S.length),z3,z4,z5,z6,z7,z8,z9,z10,z11,z12,z13,z14,z15,z16,z17]) (S := SW S x y) (S' := SW S x y) (i := S.length) (ns := [x,y]) (rest := []) (es := []) (by simp [Jae,Jaj,Jad]) (end0 _ _ _) rfl rfl hh
    rw [this]
    unfold SW
    rw [set0]
    rfl
  have s2:(sSet 3 (Jam Jdn (Jab (Ja4 Jbb (Jab (eVar 2) aNil)) aNil))) [some (.scr ns),some (.int c),some (.ref S.length),z3,z4,z5,z6,z7,z8,z9,z10,z11,z12,z13,z14,z15,z16,z17] (SW S x y) = some (.nx,[some (.scr ns),some (.int c),some (.ref S.length),some (encH true n bs),z4,z5,z6,z7,z8,z9,z10,z11,z12,z13,z14,z15,z16,z17],SW S x1 y1) := by
    rw [Jau,Jb2 (ds := [encH true n b0]) (S' := SW S x1 y1) (by rw [Jae,q2]; rfl) (by simp [Jav]) (by simp [ageL]) hf]
    rfl
  have s3:(sSet 4 (eCB bLen (Jab (eOp oIx (eVar 3) (eC (.int 1))) aNil))) [some (.scr ns),some (.int c),some (.ref S.length),some (encH true n bs),z4,z5,z6,z7,z8,z9,z10,z11,z12,z13,z14,z15,z16,z17] (SW S x1 y1) = some (.nx,[some (.scr ns),some (.int c),some (.ref S.length),some (encH true n bs),some (.int bs.length),z5,z6,z7,z8,z9,z10,z11,z12,z13,z14,z15,z16,z17],SW S x1 y1) := by
    simp [Jau,Jbv,Jae,Jaj,Jap,Jad,Jbc,oIx,Jax,VS.listOf,encH,bLen]
  obtain ⟨r1,x2,y2,d1,r10,r11⟩ := Jkz (e := [some (.scr ns),some (.int c),some (.ref S.length),some (encH true n bs),some (.int bs.length),z5,z6,z7,z8,z9,z10,z11,z12,z13,z14,z15,z16,z17]) (S0 := S) (x := x1) (y := y1) (k := 2) (a := eOp oMul (eC (.int 2)) (eOp oPow (eC (.int 10)) (eC (.int 8)))) 200000000 (by decide) (by decide) rfl (by simp [Jbc,Jap,oI,cMul,cPow,oMul,oPow,VS.listOf,-List.map_map,-Option.map_bind])
  have s4:(sSet 5 (eOp oSub (Ja4 Jah (Jab (eVar 2) (Jab (eOp oMul (eC (.int 2)) (eOp oPow (eC (.int 10)) (eC (.int 8)))) aNil))) (eOp oPow (eC (.int 10)) (eC (.int 8))))) [some (.scr ns),some (.int c),some (.ref S.length),some (encH true n bs),some (.int bs.length),z5,z6,z7,z8,z9,z10,z11,z12,z13,z14,z15,z16,z17] (SW S x1 y1) = some (.nx,[some (.scr ns),some (.int c),some (.ref S.length),some (encH true n bs),some (.int bs.length),some (.int (r1 - 100000000)),z6,z7,z8,z9,z10,z11,z12,z13,z14,z15,z16,z17],SW S x2 y2) := by
    rw [Jau,Jap,d1]
    simp [Jbc,Jap,oI,yes2,cPow,oSub,oPow,-List.map_map,-Option.map_bind]
  obtain ⟨r2,x3,y3,d2,r20,r21⟩ := Jkz (e := [some (.scr ns),some (.int c),some (.ref S.length),some (encH true n bs),some (.int bs.length),some (.int (r1 - 100000000)),z6,z7,z8,z9,z10,z11,z12,z13,z14,z15,z16,z17]) (S0 := S) (x := x2) (y := y2) (k := 2) (a := eC (.int 2)) 2 (by decide) (by decide) rfl rfl
  have s5:(sSet 6 (eOp (oEq false) (Ja4 Jah (Jab (eVar 2) (Jab (eC (.int 2)) aNil))) (eC (.int 1)))) [some (.scr ns),some (.int c),some (.ref S.length),some (encH true n bs),some (.int bs.length),some (.int (r1 - 100000000)),z6,z7,z8,z9,z10,z11,z12,z13,z14,z15,z16,z17] (SW S x2 y2) = some (.nx,[some (.scr ns),some (.int c),some (.ref S.length),some (encH true n bs),some (.int bs.length),some (.int (r1 - 100000000)),some (.bl (decide (r2 = 1))),z7,z8,z9,z10,z11,z12,z13,z14,z15,z16,z17],SW S x3 y3) := by
    rw [Jau,Jap,d2]
    simp [Jbc,oEq]
  have s6:(sSet 7 (eOp oIx (eFrz (Jab (eFrz (Jab (eC (.int 0)) aNil)) (Jab (eFrz (Jab (eC (.int 0)) (Jab (eC (.int 1)) aNil))) (Jab (eFrz (Jab (eC (.int 0)) (Jab (eC (.int 1)) (Jab (eC (.int 2)) aNil)))) aNil)))) (eOp oSub (eOp oIx (eVar 3) (eC (.int 0))) (eC (.int 1))))) [some (.scr ns),some (.int c),some (.ref S.length),some (encH true n bs),some (.int bs.length),some (.int (r1 - 100000000)),some (.bl (decide (r2 = 1))),z7,z8,z9,z10,z11,z12,z13,z14,z15,z16,z17] (SW S x3 y3) = some (.nx,[some (.scr ns),some (.int c),some (.ref S.length),some (encH true n bs),some (.int bs.length),some (.int (r1 - 100000000)),some (.bl (decide (r2 = 1))),some (encW true (Jop n)),z8,z9,z10,z11,z12,z13,z14,z15,z16,z17],SW S x3 y3) := by
    rcases gg.ways with h | h | h <;> subst h <;> rfl
  obtain ⟨r3,x4,y4,d3,r30,r31⟩ := Jkz (e := [some (.scr ns),some (.int c),some (.ref S.length),some (encH true n bs),some (.int bs.length),some (.int (r1 - 100000000)),some (.bl (decide (r2 = 1))),some (encW true (Jop n)),z8,z9,z10,z11,z12,z13,z14,z15,z16,z17]) (S0 := S) (x := x3) (y := y3) (k := 2) (a := eC (.int 3)) 3 (by decide) (by decide) rfl rfl
  obtain ⟨ws,hws,s7⟩:∃ ws,WS n ws ∧ (sSet 7 (eOp oIx (eFrz (Jab (eVar 7) (Jab (eUn Jh5 (eVar 7)) (Jab (eOp oAdd (eSl oSl (eVar 7) (Je5 (eC (.int 1))) Je6) (eSl oSl (eVar 7) Je6 (Je5 (eC (.int 1))))) aNil)))) (Ja4 Jah (Jab (eVar 2) (Jab (eC (.int 3)) aNil))))) [some (.scr ns),some (.int c),some (.ref S.length),some (encH true n bs),some (.int bs.length),some (.int (r1 - 100000000)),some (.bl (decide (r2 = 1))),some (encW true (Jop n)),z8,z9,z10,z11,z12,z13,z14,z15,z16,z17] (SW S x3 y3) = some (.nx,[some (.scr ns),some (.int c),some (.ref S.length),some (encH true n bs),some (.int bs.length),some (.int (r1 - 100000000)),some (.bl (decide (r2 = 1))),some (encW true ws),z8,z9,z10,z11,z12,z13,z14,z15,z16,z17],SW S x4 y4) := by
    have key:∀ l:D,∀ ws,(eFrz (Jab (eVar 7) (Jab (eUn Jh5 (eVar 7)) (Jab (eOp oAdd (eSl oSl (eVar 7) (Je5 (eC (.int 1))) Je6) (eSl oSl (eVar 7) Je6 (Je5 (eC (.int 1))))) aNil)))) [some (.scr ns),some (.int c),some (.ref S.length),some (encH true n bs),some (.int bs.length),some (.int (r1 - 100000000)),some (.bl (decide (r2 = 1))),some (encW true (Jop n)),z8,z9,z10,z11,z12,z13,z14,z15,z16,z17] (SW S x3 y3) = some (l,SW S x3 y3) → oIx (SW S x4 y4) l (.int r3) = some (encW true ws) → (sSet 7 (eOp oIx (eFrz (Jab (eVar 7) (Jab (eUn Jh5 (eVar 7)) (Jab (eOp oAdd (eSl oSl (eVar 7) (Je5 (eC (.int 1))) Je6) (eSl oSl (eVar 7) Je6 (Je5 (eC (.int 1))))) aNil)))) (Ja4 Jah (Jab (eVar 2) (Jab (eC (.int 3)) aNil))))) [some (.scr ns),some (.int c),some (.ref S.length),some (encH true n bs),some (.int bs.length),some (.int (r1 - 100000000)),some (.bl (decide (r2 = 1))),some (encW true (Jop n)),z8,z9,z10,z11,z12,z13,z14,z15,z16,z17] (SW S x3 y3) = some (.nx,[some (.scr ns),some (.int c),some (.ref S.length),some (encH true n bs),some (.int bs.length),some (.int (r1 - 100000000)),some (.bl (decide (r2 = 1))),some (encW true ws),z8,z9,z10,z11,z12,z13,z14,z15,z16,z17],SW S x4 y4) := fun l ws e1 e2 => by
      rw [Jau,Jap,e1]
      simp only [Option.bind_some,d3,e2,Option.map_some]
      rfl
    have hr3:r3 = 0 ∨ r3 = 1 ∨ r3 = 2 := by omega
    rcases gg.ways with h | h | h <;> subst h
    · refine ⟨[0],.inl ⟨rfl,rfl⟩,key (.lst true [encW true [0],encW true [0],encW true [0]]) _ (by rfl) ?_⟩
      rcases hr3 with rfl | rfl | rfl <;> rfl
    · have e:(eFrz (Jab (eVar 7) (Jab (eUn Jh5 (eVar 7)) (Jab (eOp oAdd (eSl oSl (eVar 7) (Je5 (eC (.int 1))) Je6) (eSl oSl (eVar 7) Je6 (Je5 (eC (.int 1))))) aNil)))) [some (.scr ns),some (.int c),some (.ref S.length),some (encH true 2 bs),some (.int bs.length),some (.int (r1 - 100000000)),some (.bl (decide (r2 = 1))),some (encW true (Jop 2)),z8,z9,z10,z11,z12,z13,z14,z15,z16,z17] (SW S x3 y3) = some (.lst true [encW true [0,1],encW true [1,0],encW true [1,0]],SW S x3 y3) := by rfl
      rcases hr3 with rfl | rfl | rfl
      · exact ⟨[0,1],.inr (.inl ⟨rfl,.inl rfl⟩),key _ _ e rfl⟩
      · exact ⟨[1,0],.inr (.inl ⟨rfl,.inr rfl⟩),key _ _ e rfl⟩
      · exact ⟨[1,0],.inr (.inl ⟨rfl,.inr rfl⟩),key _ _ e rfl⟩
    · have e:(eFrz (Jab (eVar 7) (Jab (eUn Jh5 (eVar 7)) (Jab (eOp oAdd (eSl oSl (eVar 7) (Je5 (eC (.int 1))) Je6) (eSl oSl (eVar 7) Je6 (Je5 (eC (.int 1))))) aNil)))) [some (.scr ns),some (.int c),some (.ref S.length),some (encH true 3 bs),some (.int bs.length),some (.int (r1 - 100000000)),some (.bl (decide (r2 = 1))),some (encW true (Jop 3)),z8,z9,z10,z11,z12,z13,z14,z15,z16,z17] (SW S x3 y3) = some (.lst true [encW true [0,1,2],encW true [2,1,0],encW true [1,2,0]],SW S x3 y3) := by rfl
      rcases hr3 with rfl | rfl | rfl
      · exact ⟨[0,1,2],.inr (.inr ⟨rfl,.inl rfl⟩),key _ _ e rfl⟩
      · exact ⟨[2,1,0],.inr (.inr ⟨rfl,.inr (.inl rfl)⟩),key _ _ e rfl⟩
      · exact ⟨[1,2,0],.inr (.inr ⟨rfl,.inr (.inr rfl)⟩),key _ _ e rfl⟩
  have k0:-100000000 ≤ r1 - 100000000 := by omega
  have k1:r1 - 100000000 ≤ 100000000 := by omega
  generalize r1 - 100000000 = k at *
  generalize decide (r2 = 1) = mir at *
  have gm := Jmb g k0 k1 mir hws
  have pW:Ja2 (encW true ws) = true ∧ age (encW true ws) = encW false ws := by
    have h1 := Jeu (ws.map fun (i:Nat) => (i:Int))
    have h2 := Jk5 (ws.map fun (i:Nat) => (i:Int))
    rw [List.map_map] at h1 h2
    constructor
    · rw [encW,Ja2]; exact h1
    · rw [encW,age]
      show D.lst false (ageL _) = _
      rw [show (ws.map fun (w:Nat) => D.int w) = ws.map (D.int ∘ fun (i:Nat) => (i:Int)) from rfl,h2]; rfl
  have s8:(sSet 8 (Jam Jdc (Jab (eVar 3) (Jab (eVar 5) (Jab (eVar 6) (Jab (eVar 7) aNil)))))) [some (.scr ns),some (.int c),some (.ref S.length),some (encH true n bs),some (.int bs.length),some (.int k),some (.bl mir),some (encW true ws),z8,z9,z10,z11,z12,z13,z14,z15,z16,z17] (SW S x4 y4) = some (.nx,E1 ns (.int c) S.length n bs k mir ws z9 z10 z11 z12 z13 z14 z15 z16 z17,SW S x4 y4) := by
    rw [Jau,Jb2 (ds := [encH true n bs,.int k,.bl mir,encW true ws]) (S' := SW S x4 y4) (by simp [Jae,Jaj,Jad]) (by simp [Jav,Ja2,pW]) (by simp [ageL,age,pW]) (Jvj gg k mir hws)]
    rfl
  have i1:(Jam Jbz (Jab (eVar 3) aNil)) (E1 ns (.int c) S.length n bs k mir ws z9 z10 z11 z12 z13 z14 z15 z16 z17) (SW S x4 y4) = some (.bl true,SW S x4 y4) :=
    Jb2 (ds := [encH true n bs]) (by simp [E1,Jae,Jaj,Jad]) (by simp [Jav]) (by simp [ageL]) (Jjd (m := false) gg)
  have i2:(Jam Jbz (Jab (eVar 8) aNil)) (E1 ns (.int c) S.length n bs k mir ws z9 z10 z11 z12 z13 z14 z15 z16 z17) (SW S x4 y4) = some (.bl true,SW S x4 y4) :=
    Jb2 (ds := [encH true n (bs.map (movB k mir ws))]) (by simp [E1,Jae,Jaj,Jad]) (by simp [Jav]) (by simp [ageL]) (Jjd (m := false) gm)
  have t9:(tOr (tNot (tVal (Jam Jbz (Jab (eVar 3) aNil)))) (tNot (tVal (Jam Jbz (Jab (eVar 8) aNil))))) (E1 ns (.int c) S.length n bs k mir ws z9 z10 z11 z12 z13 z14 z15 z16 z17) (SW S x4 y4) = some (false,SW S x4 y4) := by
    rw [Jg1,Jg2,Jaw,i1]
    simp only [Option.bind_some,Bool.not_true,Bool.false_eq_true,if_false,Jg2,Jaw,i2]
  have l1:∃ z9' z10' z11' z12' z13' z14' z15' x' y',Jti (E1 ns (.int c) S.length n bs k mir ws z9 z10 z11 z12 z13 z14 z15 z16 z17) (SW S x4 y4) = some (.nx,E1 ns (.int c) S.length n bs k mir ws z9' z10' z11' z12' z13' z14' z15' z16 z17,SW S x' y') := by
    have e:Jc0 (Jab (eC (.int 6)) aNil) (E1 ns (.int c) S.length n bs k mir ws z9 z10 z11 z12 z13 z14 z15 z16 z17) (SW S x4 y4) = some ((upD 0 6,[]),SW S x4 y4) := Jio (j := 6) 6 (by simp [Jbc,Jaj,Jae,-List.map_map,-Option.map_bind]) (by decide) (by decide) (by decide)
    unfold Jti
    rw [Jfz,e]
    obtain ⟨env',S',e2,a9,a10,a11,a12,a13,a14,a15,x',y',he,hS⟩ := Jft (w := []) (g := Pat.sem (.nm 9)) (b := Jqu) (ds := upD 0 6) (env := E1 ns (.int c) S.length n bs k mir ws z9 z10 z11 z12 z13 z14 z15 z16 z17) (S := SW S x4 y4)
      (fun _ env S' => ∃ a9 a10 a11 a12 a13 a14 a15 x' y',env = E1 ns (.int c) S.length n bs k mir ws a9 a10 a11 a12 a13 a14 a15 z16 z17 ∧ S' = SW S x' y') ⟨_,_,_,_,_,_,_,_,_,rfl,rfl⟩ (fun i env S _ => by simp) (fun j d env S' hd ⟨a9,a10,a11,a12,a13,a14,a15,x',y',he,hS⟩ => by
        subst he hS
        obtain ⟨b10,b11,b12,b13,b14,b15,x'',y'',e3⟩ := Jx0 ns (.int c) S g k0 k1 mir hws (some d) a10 a11 a12 a13 a14 a15 z16 z17 x' y'
        exact ⟨_,Jct _ _ _,_,_,e3,_,_,_,_,_,_,_,_,_,rfl,rfl⟩)
    subst he hS
    exact ⟨a9,a10,a11,a12,a13,a14,a15,x',y',e2⟩
  obtain ⟨a9,a10,a11,a12,a13,a14,a15,x5,y5,l1⟩ := l1
  have l2:∃ z16' z17',Jth (E1 ns (.int c) S.length n bs k mir ws a9 a10 a11 a12 a13 a14 a15 z16 z17) (SW S x5 y5) = some (.nx,E1 ns (.int c) S.length n bs k mir ws a9 a10 a11 a12 a13 a14 a15 z16' z17',SW S x5 y5) := by
    have e:Jc0 (Jab (eVar 4) aNil) (E1 ns (.int c) S.length n bs k mir ws a9 a10 a11 a12 a13 a14 a15 z16 z17) (SW S x5 y5) = some ((upD 0 bs.length,[]),SW S x5 y5) := Jio (j := (bs.length:Int)) _ (by simp [E1,Jae,Jaj,Jad]) (by simp) (by omega) (by omega)
    unfold Jth
    rw [Jfz,e]
    obtain ⟨env',S',e2,a16,a17,he,hS⟩ := Jft (w := []) (g := Pat.sem (.nm 16)) (b := Jqt) (ds := upD 0 bs.length) (env := E1 ns (.int c) S.length n bs k mir ws a9 a10 a11 a12 a13 a14 a15 z16 z17) (S := SW S x5 y5)
      (fun _ env S' => ∃ a16 a17,env = E1 ns (.int c) S.length n bs k mir ws a9 a10 a11 a12 a13 a14 a15 a16 a17 ∧ S' = SW S x5 y5) ⟨_,_,rfl,rfl⟩ (fun i env S _ => by simp) (fun j d env S' hd ⟨a16,a17,he,hS⟩ => by
        obtain ⟨hj,rfl⟩ := Jhx hd
        subst he hS
        obtain ⟨b17,e3⟩ := Js4 ns (.int c) S.length g k0 k1 mir hws a9 a10 a11 a12 a13 a14 a15 a17 j hj (SW S x5 y5)
        rw [Int.zero_add]
        exact ⟨_,Jct _ _ _,_,_,e3,_,_,rfl,rfl⟩)
    subst he hS
    exact ⟨a16,a17,e2⟩
  obtain ⟨a16,a17,l2⟩ := l2
  have s9:(sIf (tOr (tNot (tVal (Jam Jbz (Jab (eVar 3) aNil)))) (tNot (tVal (Jam Jbz (Jab (eVar 8) aNil))))) (sRet (eC (.bl false))) sNil) (E1 ns (.int c) S.length n bs k mir ws z9 z10 z11 z12 z13 z14 z15 z16 z17) (SW S x4 y4) = some (.nx,E1 ns (.int c) S.length n bs k mir ws z9 z10 z11 z12 z13 z14 z15 z16 z17,SW S x4 y4) := by rw [Jk7 t9]; rfl
  unfold Jqs
  rw [Jbd s1,Jbd s2,Jbd s3,Jbd s4,Jbd s5,Jbd s6,Jbd s7,Jbd s8,Jbd s9,Jbd l1,l2]
  exact ⟨_,_,_,_,_,_,_,_,_,_,_,_,_,_,_,_,_,rfl⟩
theorem Jvu:∀ ns:List Int,ns.length ≤ 63 → Jov [.scr ns] = some (.bl true) := by
  intro ns hns
  obtain ⟨l,e⟩:∃ l:List Int,iSeq (eOp oAdd (eFrz (Jab (eC (.int 0)) (Jab (eC (.int 5)) aNil))) (eSl oSl (eVar 0) Je6 (Je5 (eC (.int 6))))) [some (.scr ns),none,none,none,none,none,none,none,none,none,none,none,none,none,none,none,none,none] [] = some ((l.map .int,[]),[]) := by
    obtain ⟨cs,hc,hl⟩:∃ cs:List Int,cut (ns.map D.int) none (some 6) = cs.map D.int ∧ cs.length ≤ 63 := by
      unfold cut
      rw [← List.map_drop,← List.map_take]
      exact ⟨_,rfl,by rw [List.length_take,List.length_drop]; omega⟩
    have hl2:2 + cs.length ≤ 1000000 := by omega
    refine ⟨0 :: 5 :: cs,?_⟩
    simp [Jad,Jbc,Jap,Jaj,Jae,Jgm,Jgl,Jky,Ja3,oAdd,oSl,VS.listOf,Jax,VS.idOf,Jcz,-List.map_map,-Option.map_bind,hc,hl2]
  have l1:∃ env' S',Jtg [some (.scr ns),none,none,none,none,none,none,none,none,none,none,none,none,none,none,none,none,none] [] = some (.nx,env',S') := by
    unfold Jtg
    rw [Jfz,e]
    obtain ⟨env',S',e2,_⟩ := Jft (w := []) (g := Pat.sem (.nm 1)) (b := Jqs) (ds := l.map .int) (env := [some (.scr ns),none,none,none,none,none,none,none,none,none,none,none,none,none,none,none,none,none]) (S := [])
      (fun _ env S => ∃ y1 y2 y3 y4 y5 y6 y7 y8 y9 y10 y11 y12 y13 y14 y15 y16 y17,env = [some (.scr ns),y1,y2,y3,y4,y5,y6,y7,y8,y9,y10,y11,y12,y13,y14,y15,y16,y17]) ⟨_,_,_,_,_,_,_,_,_,_,_,_,_,_,_,_,_,rfl⟩ (fun i env S _ => by simp) (fun j d env S hd ⟨y1,y2,y3,y4,y5,y6,y7,y8,y9,y10,y11,y12,y13,y14,y15,y16,y17,he⟩ => by
        rw [List.getElem?_map] at hd
        obtain ⟨c,hc,rfl⟩ := Option.map_eq_some_iff.mp hd
        subst he
        obtain ⟨u2,u3,u4,u5,u6,u7,u8,u9,u10,u11,u12,u13,u14,u15,u16,u17,S',e3⟩ := Jz0 ns c y2 y3 y4 y5 y6 y7 y8 y9 y10 y11 y12 y13 y14 y15 y16 y17 S
        exact ⟨_,Jct _ _ _,_,_,e3,_,_,_,_,_,_,_,_,_,_,_,_,_,_,_,_,_,rfl⟩)
    exact ⟨env',S',e2⟩
  obtain ⟨env',S',l1⟩ := l1
  unfold Jov
  rw [Jck]
  simp only [List.length_cons,List.length_nil,List.map_cons,List.map_nil,Nat.reduceAdd,Nat.reduceSub,List.replicate_succ,List.replicate_zero,List.cons_append,List.nil_append,if_true]
  unfold JCf
  rw [Jbd l1]
  simp [Ja0,Jbc,den,-List.map_map,-Option.map_bind]
end W06
end
section
set_option Elab.async false
set_option maxRecDepth 10000
set_option linter.all false
set_option maxHeartbeats 4000000
def PySem.W.Fast.tw9019158209890997759:Nat := 0
def PySem.W.Fast.tw55248669650289339:Nat := 0
def PySem.W.Fast.tw15583265116821062490:Nat := 0
def PySem.W.Fast.tw5348759616344153831:Nat := 0
def PySem.W.Fast.tw2173327315704993803:Nat := 0
def PySem.W.Fast.tw10362776004084865980:Nat := 0
def PySem.W.Fast.tw5035581818484806497:Nat := 0
def PySem.W.Fast.tw16702531235581214828:Nat := 0
def PySem.W.Fast.tw16750754278887027973:Nat := 0
def PySem.W.Fast.tw9087385784746118037:Nat := 0
def PySem.W.Fast.tw15002848465058037142:Nat := 0
def PySem.W.Fast.tw3477332221089680956:Nat := 0
def PySem.W.Fast.tw2430648970339741511:Nat := 0
def PySem.W.Fast.tw18391743943682909985:Nat := 0
def PySem.W.Fast.tw3252793653192311813:Nat := 0
def PySem.W.Fast.tw15264658904022284461:Nat := 0
def PySem.W.Fast.tw11616279273275228379:Nat := 0
def PySem.W.Fast.tw11803957289430539039:Nat := 0
def PySem.W.Fast.tw9551315355911290093:Nat := 0
def PySem.W.Fast.tw8933441542585567478:Nat := 0
def PySem.W.Fast.tw5713839660893872196:Nat := 0
def PySem.W.Fast.tw16114505562745079780:Nat := 0
def PySem.W.Fast.tw14255944761891697166:Nat := 0
def PySem.W.Fast.tw1962496617919181465:Nat := 0
def PySem.W.Fast.tw14984000728224311664:Nat := 0
def PySem.W.Fast.tw14860662270572162712:Nat := 0
def PySem.W.Fast.tw8811095168337197139:Nat := 0
def PySem.W.Fast.tw5486244550336176551:Nat := 0
def PySem.W.Fast.tw9180222414567285511:Nat := 0
def PySem.W.Fast.tw17342359850223634948:Nat := 0
def PySem.W.Fast.tw13867891154786372471:Nat := 0
def PySem.W.Fast.tw9083338923956686082:Nat := 0
def PySem.W.Fast.tw1450111096825568160:Nat := 0
def PySem.W.Fast.tw6422200187838524562:Nat := 0
def PySem.W.Fast.tw2615601087534665920:Nat := 0
def PySem.W.Fast.tw18263965089179387197:Nat := 0
def PySem.W.Fast.tw11065295184644335343:Nat := 0
def PySem.W.Fast.tw11883678926073115720:Nat := 0
def PySem.W.Fast.tw18418971376184662225:Nat := 0
def PySem.W.Fast.tw9723996745705313406:Nat := 0
def PySem.W.Fast.tw6397936012601730811:Nat := 0
def PySem.W.Fast.tw11144590817753507619:Nat := 0
def PySem.W.Fast.tw6769362555976721941:Nat := 0
def PySem.W.Fast.tw2003782478411335403:Nat := 0
def PySem.W.Fast.tw10636200936292365044:Nat := 0
def PySem.W.Fast.tw8452013231765288900:Nat := 0
def PySem.W.Fast.tw10231173659507672223:Nat := 0
def PySem.W.Fast.tw6176177054292753278:Nat := 0
def PySem.W.Fast.tw16263166131005064303:Nat := 0
def PySem.W.Fast.tw6882388969649439091:Nat := 0
def PySem.W.Fast.tw3159861043474397580:Nat := 0
def PySem.W.Fast.tw4231920086665419299:Nat := 0
def PySem.W.Fast.tw15825695332439985849:Nat := 0
def PySem.W.Fast.tw8863592426411430053:Nat := 0
def PySem.W.Fast.tw10514394322617173412:Nat := 0
def PySem.W.Fast.tw6415909510796441674:Nat := 0
def PySem.W.Fast.tw2715288556555012900:Nat := 0
def PySem.W.Fast.tw10633064002445387281:Nat := 0
def PySem.W.Fast.tw17971043055221716795:Nat := 0
def PySem.W.Fast.tw9332157762331205752:Nat := 0
def PySem.W.Fast.tw16410291426899217809:Nat := 0
def PySem.W.Fast.tw11991900945187844387:Nat := 0
def PySem.W.Fast.tw12516601644275072477:Nat := 0
def PySem.W.Fast.tw9987200084535423370:Nat := 0
def PySem.W.Fast.tw13791733386662084072:Nat := 0
def PySem.W.Fast.tw16664574050233325965:Nat := 0
def PySem.W.Fast.tw15873382039256922477:Nat := 0
def PySem.W.Fast.tw13479122361326471704:Nat := 0
def PySem.W.Fast.tw4047614226811326125:Nat := 0
def PySem.W.Fast.tw6448388147291549599:Nat := 0
def PySem.W.Fast.tw14961525941448661085:Nat := 0
def PySem.W.Fast.tw1099474285024683866:Nat := 0
def PySem.W.Fast.tw7786986658244915188:Nat := 0
def PySem.W.Fast.tw12088563558221627008:Nat := 0
def PySem.W.Fast.tw15414404134424657078:Nat := 0
def PySem.W.Fast.tw7139321383870387779:Nat := 0
def PySem.W.Fast.tw2606365226796864501:Nat := 0
def PySem.W.Fast.tw10689862302955805801:Nat := 0
def PySem.W.Fast.tw3129935067744781879:Nat := 0
def PySem.W.Fast.tw17616179111103727882:Nat := 0
def PySem.W.Fast.tw10683933638226678098:Nat := 0
def PySem.W.Fast.tw12668802503185615315:Nat := 0
def PySem.W.Fast.tw1254705208256305583:Nat := 0
def PySem.W.Fast.tw13267623106306448097:Nat := 0
def PySem.W.Fast.tw17543601613948019943:Nat := 0
def PySem.W.Fast.tw10706372689333503439:Nat := 0
def PySem.W.Fast.tw7785880667602798180:Nat := 0
def PySem.W.Fast.tw587337676568429732:Nat := 0
def PySem.W.Fast.tw15795076617686796667:Nat := 0
def PySem.W.Fast.tw7044350616976367078:Nat := 0
def PySem.W.Fast.tw14936038285651350134:Nat := 0
def PySem.W.Fast.tw11585335537822320398:Nat := 0
def PySem.W.Fast.tw3609170074463394511:Nat := 0
def PySem.W.Fast.tw14005545863437112762:Nat := 0
def PySem.W.Fast.tw3740882647646437435:Nat := 0
def PySem.W.Fast.tw177569598082139476:Nat := 0
def PySem.W.Fast.tw2131398604831351333:Nat := 0
def PySem.W.Fast.tw17318134880320895934:Nat := 0
def PySem.W.Fast.tw9408884287249295715:Nat := 0
def PySem.W.Fast.tw10227615574675201513:Nat := 0
def PySem.W.Fast.tw3735498371092809012:Nat := 0
def PySem.W.Fast.tw1160204545057498472:Nat := 0
def PySem.W.Fast.tw6094271307520800714:Nat := 0
def PySem.W.Fast.tw580776657053244668:Nat := 0
def PySem.W.Fast.tw14357556211088894348:Nat := 0
def PySem.W.Fast.tw10141563120963480728:Nat := 0
def PySem.W.Fast.tw17830003516983885752:Nat := 0
def PySem.W.Fast.tw9112564550251100271:Nat := 0
def PySem.W.Fast.tw4294988914504812137:Nat := 0
def PySem.W.Fast.tw2947815310294556049:Nat := 0
def PySem.W.Fast.tw5481138719720309570:Nat := 0
def PySem.W.Fast.tw1822916489986064330:Nat := 0
def PySem.W.Fast.tw4008802443929807753:Nat := 0
def PySem.W.Fast.tw15733720374016905695:Nat := 0
def PySem.W.Fast.tw12798691635990754867:Nat := 0
def PySem.W.Fast.tw9920343978565722281:Nat := 0
def PySem.W.Fast.tw9625716616191679273:Nat := 0
def PySem.W.Fast.tw3058427478047808789:Nat := 0
def PySem.W.Fast.tw12266035063483759218:Nat := 0
def PySem.W.Fast.tw1618804201627062665:Nat := 0
def PySem.W.Fast.tw9460421192474725013:Nat := 0
def PySem.W.Fast.tw6755971930528320248:Nat := 0
def PySem.W.Fast.tw18224440846560746061:Nat := 0
def PySem.W.Fast.tw10481419242911827466:Nat := 0
def PySem.W.Fast.tw10317182550590826642:Nat := 0
def PySem.W.Fast.tw9343549969975117162:Nat := 0
def PySem.W.Fast.tw1114944486216487536:Nat := 0
def PySem.W.Fast.tw17481535070465774697:Nat := 0
def PySem.W.Fast.tw6338963369962078416:Nat := 0
def PySem.W.Fast.tw3303920752298409048:Nat := 0
def PySem.W.Fast.tw2020143286590083160:Nat := 0
def PySem.W.Fast.tw4471821002206705050:Nat := 0
def PySem.W.Fast.tw15519211202092063939:Nat := 0
def PySem.W.Fast.tw17029522891931517896:Nat := 0
def PySem.W.Fast.tw16787349053944354434:Nat := 0
def PySem.W.Fast.tw16333070885965170203:Nat := 0
def PySem.W.Fast.tw4319269453241428077:Nat := 0
def PySem.W.Fast.tw1756593021349310622:Nat := 0
def PySem.W.Fast.tw15065388899537120485:Nat := 0
def PySem.W.Fast.tw13999824199837193399:Nat := 0
def PySem.W.Fast.tw3452459062994554927:Nat := 0
def PySem.W.Fast.tw1455838701218873724:Nat := 0
def PySem.W.Fast.tw9767470036451345218:Nat := 0
def PySem.W.Fast.tw13502395082349854892:Nat := 0
def PySem.W.Fast.tw9211979320980135820:Nat := 0
def PySem.W.Fast.tw4682086324211959613:Nat := 0
def PySem.W.Fast.tw16678991258858772010:Nat := 0
def PySem.W.Fast.tw16511354810620080034:Nat := 0
def PySem.W.Fast.tw3557707623798475839:Nat := 0
def PySem.W.Fast.tw12262061825789522240:Nat := 0
def PySem.W.Fast.tw6196575201533932638:Nat := 0
def PySem.W.Fast.tw5669916769500302589:Nat := 0
def PySem.W.Fast.tw8112378400676852735:Nat := 0
def PySem.W.Fast.tw6554642951992686261:Nat := 0
def PySem.W.Fast.tw9839799034561214588:Nat := 0
def PySem.W.Fast.tw16494319719898723506:Nat := 0
def PySem.W.Fast.tw1415965561113532324:Nat := 0
def PySem.W.Fast.tw2565480089275290391:Nat := 0
def PySem.W.Fast.tw11503928565405977144:Nat := 0
def PySem.W.Fast.tw16801921928204452933:Nat := 0
def PySem.W.Fast.tw18135636821817100145:Nat := 0
def PySem.W.Fast.tw8785293766400813401:Nat := 0
def PySem.W.Fast.tw3564424132668977210:Nat := 0
def PySem.W.Fast.tw2917443619832284339:Nat := 0
def PySem.W.Fast.tw14582176176828015697:Nat := 0
def PySem.W.Fast.tw9182116978404711347:Nat := 0
def PySem.W.Fast.tw7089330186545181578:Nat := 0
def PySem.W.Fast.tw13510908418317379429:Nat := 0
def PySem.W.Fast.tw12662681065912736383:Nat := 0
def PySem.W.Fast.tw10135050984166051655:Nat := 0
def PySem.W.Fast.tw6904732812775327522:Nat := 0
def PySem.W.Fast.tw17990407832895887667:Nat := 0
def PySem.W.Fast.tw11574082932951894324:Nat := 0
def PySem.W.Fast.tw9329082298770152669:Nat := 0
def PySem.W.Fast.tw3846309971700752393:Nat := 0
def PySem.W.Fast.tw1780433633073109355:Nat := 0
def PySem.W.Fast.tw10004812027327894617:Nat := 0
def PySem.W.Fast.tw9891685644913659342:Nat := 0
def PySem.W.Fast.tw9729323740561144403:Nat := 0
def PySem.W.Fast.tw9554843174948874766:Nat := 0
def PySem.W.Fast.tw8846642103818357425:Nat := 0
def PySem.W.Fast.tw7620418590661871727:Nat := 0
def PySem.W.Fast.tw7422144858608135468:Nat := 0
def PySem.W.Fast.tw7341739791232376340:Nat := 0
def PySem.W.Fast.tw7234215763055560301:Nat := 0
def PySem.W.Fast.tw6888764692766828028:Nat := 0
def PySem.W.Fast.tw6838778008223067238:Nat := 0
def PySem.W.Fast.tw6542616023528536905:Nat := 0
def PySem.W.Fast.tw6411142542099093406:Nat := 0
def PySem.W.Fast.tw6226362898164989122:Nat := 0
def PySem.W.Fast.tw5696619772171639947:Nat := 0
def PySem.W.Fast.tw5133819727959751854:Nat := 0
def PySem.W.Fast.tw4697122987184150539:Nat := 0
def PySem.W.Fast.tw4043141244113290695:Nat := 0
def PySem.W.Fast.tw3961192567228310258:Nat := 0
def PySem.W.Fast.tw3846801947461246657:Nat := 0
def PySem.W.Fast.tw3778423795180231158:Nat := 0
def PySem.W.Fast.tw299185357794830187:Nat := 0
def PySem.W.Fast.tw243079635520265822:Nat := 0
def PySem.W.Fast.tw2336266728737280276:Nat := 0
def PySem.W.Fast.tw2323396097476176138:Nat := 0
def PySem.W.Fast.tw17199769208742669522:Nat := 0
def PySem.W.Fast.tw17160309450590839243:Nat := 0
def PySem.W.Fast.tw17148188896462576027:Nat := 0
def PySem.W.Fast.tw16955975233680788222:Nat := 0
def PySem.W.Fast.tw16776844885406324534:Nat := 0
def PySem.W.Fast.tw15822620062620000934:Nat := 0
def PySem.W.Fast.tw15395520235990596155:Nat := 0
def PySem.W.Fast.tw15389535150319509348:Nat := 0
def PySem.W.Fast.tw14260743280266164970:Nat := 0
def PySem.W.Fast.tw14183398613991628009:Nat := 0
def PySem.W.Fast.tw14058358837614411370:Nat := 0
def PySem.W.Fast.tw13752681012808623518:Nat := 0
def PySem.W.Fast.tw13715180663089374384:Nat := 0
def PySem.W.Fast.tw13246622971388733732:Nat := 0
def PySem.W.Fast.tw13027686685914115147:Nat := 0
def PySem.W.Fast.tw12866077820223764804:Nat := 0
def PySem.W.Fast.tw12364923191976034177:Nat := 0
def PySem.W.Fast.tw12261786439106678506:Nat := 0
def PySem.W.Fast.tw122464788252065512:Nat := 0
def PySem.W.Fast.tw11754071916823171455:Nat := 0
def PySem.W.Fast.tw11490179007353622736:Nat := 0
def PySem.W.Fast.tw10755947703646462078:Nat := 0
def PySem.W.Fast.tw10671929981393128008:Nat := 0
def PySem.W.Fast.tw10668035602568279051:Nat := 0
def PySem.W.Fast.tw1060057504182258743:Nat := 0
def PySem.W.Fast.tw10587654119300933647:Nat := 0
def PySem.W.Fast.tw1057766490211366242:Nat := 0
def PySem.W.Fast.tw1045196888813508524:Nat := 0
def PySem.W.Fast.tw10336553895460954016:Nat := 0
def PySem.W.Fast.tw10276531244232861560:Nat := 0
def PySem.W.Fast.tw1010304665430069234:Nat := 0
namespace W06
open PySem PySem.Spec L2 VS
theorem tln1:∀ {us:List Value},us.length = 1 → ∃ a0,us = [a0]
  | [a0],_ => ⟨a0,rfl⟩
theorem tln2:∀ {us:List Value},us.length = 2 → ∃ a0 a1,us = [a0,a1]
  | [a0,a1],_ => ⟨a0,a1,rfl⟩
theorem tln3:∀ {us:List Value},us.length = 3 → ∃ a0 a1 a2,us = [a0,a1,a2]
  | [a0,a1,a2],_ => ⟨a0,a1,a2,rfl⟩
theorem tln4:∀ {us:List Value},us.length = 4 → ∃ a0 a1 a2 a3,us = [a0,a1,a2,a3]
  | [a0,a1,a2,a3],_ => ⟨a0,a1,a2,a3,rfl⟩
theorem tops {l:PySem.W.OpenLaw} {w:World} {K:PySem.W.Frag} {h:Heap} {mg:Str → Option Value} {fa dM:Addr} {f1 f2 f3 f4 f5 f6 f7 f8 f9 f10 f11 f12 f13 f14 f15 f16 f17 f18 f19 f20 f21 f22 f23 f24 f25 f26 f27 f28 f29 f30 f31:Addr} (X:K.In h) (G:h.Ns mainGlobals mg) (hfa:mg "law" = some (.ref fa))
    {od1 an1 od2 an2 od3 an3 od4 an4 od5 an5 od6 an6 od7 an7 od8 an8 od9 an9 od10 an10 od11 an11 od12 an12 od13 an13 od14 an14 od15 an15 od16 an16 od17 an17 od18 an18 od19 an19 od20 an20 od21 an21 od22 an22 od23 an23 od24 an24 od25 an25 od26 an26 od27 an27 od28 an28 od29 an29 od30 an30 od31 an31:Option Addr} {sl1 sl2 sl3 sl4 sl5 sl6 sl7 sl8 sl9 sl10 sl11 sl12 sl13 sl14 sl15 sl16 sl17 sl18 sl19 sl20 sl21 sl22 sl23 sl24 sl25 sl26 sl27 sl28 sl29 sl30 sl31:Array (Option Value)} {oc1 kV1 dc1 pm1 cd1 ct1 oc2 kV2 dc2 pm2 cd2 ct2 oc3 kV3 dc3 pm3 cd3 ct3 oc4 kV4 dc4 pm4 cd4 ct4 oc5 kV5 dc5 pm5 cd5 ct5 oc6 kV6 dc6 pm6 cd6 ct6 oc7 kV7 dc7 pm7 cd7 ct7 oc8 kV8 dc8 pm8 cd8 ct8 oc9 kV9 dc9 pm9 cd9 ct9 oc10 kV10 dc10 pm10 cd10 ct10 oc11 kV11 dc11 pm11 cd11 ct11 oc12 kV12 dc12 pm12 cd12 ct12 oc13 kV13 dc13 pm13 cd13 ct13 oc14 kV14 dc14 pm14 cd14 ct14 oc15 kV15 dc15 pm15 cd15 ct15 oc16 kV16 dc16 pm16 cd16 ct16 oc17 kV17 dc17 pm17 cd17 ct17 oc18 kV18 dc18 pm18 cd18 ct18 oc19 kV19 dc19 pm19 cd19 ct19 oc20 kV20 dc20 pm20 cd20 ct20 oc21 kV21 dc21 pm21 cd21 ct21 oc22 kV22 dc22 pm22 cd22 ct22 oc23 kV23 dc23 pm23 cd23 ct23 oc24 kV24 dc24 pm24 cd24 ct24 oc25 kV25 dc25 pm25 cd25 ct25 oc26 kV26 dc26 pm26 cd26 ct26 oc27 kV27 dc27 pm27 cd27 ct27 oc28 kV28 dc28 pm28 cd28 ct28 oc29 kV29 dc29 pm29 cd29 ct29 oc30 kV30 dc30 pm30 cd30 ct30 oc31 kV31 dc31 pm31 cd31 ct31:Value}
    (a1:PySem.W.nsIn K mainGlobals "is_whole" = some (some (.ref f1))) (l1:K.lookup f1 = some ⟨oc1,od1,.func (PySem.W.fnOf "is_whole" "is_whole" (Jbo Je9) (Jbf Je9) (Jai Je9) .none kV1 dc1 pm1 an1 cd1 ct1),sl1⟩) (c1:PySem.W.codeIn K cd1 "is_whole" = true) (k1:PySem.W.keepIn K (.ref f1) = true)
    (a2:PySem.W.nsIn K mainGlobals "are_ways" = some (some (.ref f2))) (l2:K.lookup f2 = some ⟨oc2,od2,.func (PySem.W.fnOf "are_ways" "are_ways" (Jbo Jfb) (Jbf Jfb) (Jai Jfb) .none kV2 dc2 pm2 an2 cd2 ct2),sl2⟩) (c2:PySem.W.codeIn K cd2 "are_ways" = true) (k2:PySem.W.keepIn K (.ref f2) = true)
    (a3:PySem.W.nsIn K mainGlobals "is_stretch" = some (some (.ref f3))) (l3:K.lookup f3 = some ⟨oc3,od3,.func (PySem.W.fnOf "is_stretch" "is_stretch" (Jbo Jea) (Jbf Jea) (Jai Jea) .none kV3 dc3 pm3 an3 cd3 ct3),sl3⟩) (c3:PySem.W.codeIn K cd3 "is_stretch" = true) (k3:PySem.W.keepIn K (.ref f3) = true)
    (a4:PySem.W.nsIn K mainGlobals "is_box" = some (some (.ref f4))) (l4:K.lookup f4 = some ⟨oc4,od4,.func (PySem.W.fnOf "is_box" "is_box" (Jbo Jgi) (Jbf Jgi) (Jai Jgi) .none kV4 dc4 pm4 an4 cd4 ct4),sl4⟩) (c4:PySem.W.codeIn K cd4 "is_box" = true) (k4:PySem.W.keepIn K (.ref f4) = true)
    (a5:PySem.W.nsIn K mainGlobals "is_heap" = some (some (.ref f5))) (l5:K.lookup f5 = some ⟨oc5,od5,.func (PySem.W.fnOf "is_heap" "is_heap" (Jbo Jfe) (Jbf Jfe) (Jai Jfe) .none kV5 dc5 pm5 an5 cd5 ct5),sl5⟩) (c5:PySem.W.codeIn K cd5 "is_heap" = true) (k5:PySem.W.keepIn K (.ref f5) = true)
    (a6:PySem.W.nsIn K mainGlobals "need_heap" = some (some (.ref f6))) (l6:K.lookup f6 = some ⟨oc6,od6,.func (PySem.W.fnOf "need_heap" "need_heap" (Jbo Jen) (Jbf Jen) (Jai Jen) .none kV6 dc6 pm6 an6 cd6 ct6),sl6⟩) (c6:PySem.W.codeIn K cd6 "need_heap" = true) (k6:PySem.W.keepIn K (.ref f6) = true)
    (a7:PySem.W.nsIn K mainGlobals "need_spot" = some (some (.ref f7))) (l7:K.lookup f7 = some ⟨oc7,od7,.func (PySem.W.fnOf "need_spot" "need_spot" (Jbo Jd4) (Jbf Jd4) (Jai Jd4) .none kV7 dc7 pm7 an7 cd7 ct7),sl7⟩) (c7:PySem.W.codeIn K cd7 "need_spot" = true) (k7:PySem.W.keepIn K (.ref f7) = true)
    (a8:PySem.W.nsIn K mainGlobals "numbered_box" = some (some (.ref f8))) (l8:K.lookup f8 = some ⟨oc8,od8,.func (PySem.W.fnOf "numbered_box" "numbered_box" (Jbo Jdj) (Jbf Jdj) (Jai Jdj) .none kV8 dc8 pm8 an8 cd8 ct8),sl8⟩) (c8:PySem.W.codeIn K cd8 "numbered_box" = true) (k8:PySem.W.keepIn K (.ref f8) = true)
    (a9:PySem.W.nsIn K mainGlobals "box_size" = some (some (.ref f9))) (l9:K.lookup f9 = some ⟨oc9,od9,.func (PySem.W.fnOf "box_size" "box_size" (Jbo Jfa) (Jbf Jfa) (Jai Jfa) .none kV9 dc9 pm9 an9 cd9 ct9),sl9⟩) (c9:PySem.W.codeIn K cd9 "box_size" = true) (k9:PySem.W.keepIn K (.ref f9) = true)
    (a10:PySem.W.nsIn K mainGlobals "holds" = some (some (.ref f10))) (l10:K.lookup f10 = some ⟨oc10,od10,.func (PySem.W.fnOf "holds" "holds" (Jbo Jh2) (Jbf Jh2) (Jai Jh2) .none kV10 dc10 pm10 an10 cd10 ct10),sl10⟩) (c10:PySem.W.codeIn K cd10 "holds" = true) (k10:PySem.W.keepIn K (.ref f10) = true)
    (a11:PySem.W.nsIn K mainGlobals "size_of" = some (some (.ref f11))) (l11:K.lookup f11 = some ⟨oc11,od11,.func (PySem.W.fnOf "size_of" "size_of" (Jbo Jf5) (Jbf Jf5) (Jai Jf5) .none kV11 dc11 pm11 an11 cd11 ct11),sl11⟩) (c11:PySem.W.codeIn K cd11 "size_of" = true) (k11:PySem.W.keepIn K (.ref f11) = true)
    (a12:PySem.W.nsIn K mainGlobals "boxes_at" = some (some (.ref f12))) (l12:K.lookup f12 = some ⟨oc12,od12,.func (PySem.W.fnOf "boxes_at" "boxes_at" (Jbo Jet) (Jbf Jet) (Jai Jet) .none kV12 dc12 pm12 an12 cd12 ct12),sl12⟩) (c12:PySem.W.codeIn K cd12 "boxes_at" = true) (k12:PySem.W.keepIn K (.ref f12) = true)
    (a13:PySem.W.nsIn K mainGlobals "how_often" = some (some (.ref f13))) (l13:K.lookup f13 = some ⟨oc13,od13,.func (PySem.W.fnOf "how_often" "how_often" (Jbo Jer) (Jbf Jer) (Jai Jer) .none kV13 dc13 pm13 an13 cd13 ct13),sl13⟩) (c13:PySem.W.codeIn K cd13 "how_often" = true) (k13:PySem.W.keepIn K (.ref f13) = true)
    (a14:PySem.W.nsIn K mainGlobals "shared_box" = some (some (.ref f14))) (l14:K.lookup f14 = some ⟨oc14,od14,.func (PySem.W.fnOf "shared_box" "shared_box" (Jbo Jc9) (Jbf Jc9) (Jai Jc9) .none kV14 dc14 pm14 an14 cd14 ct14),sl14⟩) (c14:PySem.W.codeIn K cd14 "shared_box" = true) (k14:PySem.W.keepIn K (.ref f14) = true)
    (a15:PySem.W.nsIn K mainGlobals "common_of" = some (some (.ref f15))) (l15:K.lookup f15 = some ⟨oc15,od15,.func (PySem.W.fnOf "common_of" "common_of" (Jbo Jes) (Jbf Jes) (Jai Jes) .none kV15 dc15 pm15 an15 cd15 ct15),sl15⟩) (c15:PySem.W.codeIn K cd15 "common_of" = true) (k15:PySem.W.keepIn K (.ref f15) = true)
    (a16:PySem.W.nsIn K mainGlobals "span_along" = some (some (.ref f16))) (l16:K.lookup f16 = some ⟨oc16,od16,.func (PySem.W.fnOf "span_along" "span_along" (Jbo Jc8) (Jbf Jc8) (Jai Jc8) .none kV16 dc16 pm16 an16 cd16 ct16),sl16⟩) (c16:PySem.W.codeIn K cd16 "span_along" = true) (k16:PySem.W.keepIn K (.ref f16) = true)
    (a17:PySem.W.nsIn K mainGlobals "span_of" = some (some (.ref f17))) (l17:K.lookup f17 = some ⟨oc17,od17,.func (PySem.W.fnOf "span_of" "span_of" (Jbo Jfd) (Jbf Jfd) (Jai Jfd) .none kV17 dc17 pm17 an17 cd17 ct17),sl17⟩) (c17:PySem.W.codeIn K cd17 "span_of" = true) (k17:PySem.W.keepIn K (.ref f17) = true)
    (a18:PySem.W.nsIn K mainGlobals "_law_well" = some (some (.ref f18))) (l18:K.lookup f18 = some ⟨oc18,od18,.func (PySem.W.fnOf "_law_well" "_law_well" (Jbo Je7) (Jbf Je7) (Jai Je7) .none kV18 dc18 pm18 an18 cd18 ct18),sl18⟩) (c18:PySem.W.codeIn K cd18 "_law_well" = true) (k18:PySem.W.keepIn K (.ref f18) = true)
    (a19:PySem.W.nsIn K mainGlobals "_law_draw" = some (some (.ref f19))) (l19:K.lookup f19 = some ⟨oc19,od19,.func (PySem.W.fnOf "_law_draw" "_law_draw" (Jbo Je8) (Jbf Je8) (Jai Je8) .none kV19 dc19 pm19 an19 cd19 ct19),sl19⟩) (c19:PySem.W.codeIn K cd19 "_law_draw" = true) (k19:PySem.W.keepIn K (.ref f19) = true)
    (a20:PySem.W.nsIn K mainGlobals "_law_marks" = some (some (.ref f20))) (l20:K.lookup f20 = some ⟨oc20,od20,.func (PySem.W.fnOf "_law_marks" "_law_marks" (Jbo Jd5) (Jbf Jd5) (Jai Jd5) .none kV20 dc20 pm20 an20 cd20 ct20),sl20⟩) (c20:PySem.W.codeIn K cd20 "_law_marks" = true) (k20:PySem.W.keepIn K (.ref f20) = true)
    (a21:PySem.W.nsIn K mainGlobals "_law_stretch" = some (some (.ref f21))) (l21:K.lookup f21 = some ⟨oc21,od21,.func (PySem.W.fnOf "_law_stretch" "_law_stretch" (Jbo Jdt) (Jbf Jdt) (Jai Jdt) .none kV21 dc21 pm21 an21 cd21 ct21),sl21⟩) (c21:PySem.W.codeIn K cd21 "_law_stretch" = true) (k21:PySem.W.keepIn K (.ref f21) = true)
    (a22:PySem.W.nsIn K mainGlobals "_law_near" = some (some (.ref f22))) (l22:K.lookup f22 = some ⟨oc22,od22,.func (PySem.W.fnOf "_law_near" "_law_near" (Jbo Jeo) (Jbf Jeo) (Jai Jeo) .none kV22 dc22 pm22 an22 cd22 ct22),sl22⟩) (c22:PySem.W.codeIn K cd22 "_law_near" = true) (k22:PySem.W.keepIn K (.ref f22) = true)
    (a23:PySem.W.nsIn K mainGlobals "_law_heap" = some (some (.ref f23))) (l23:K.lookup f23 = some ⟨oc23,od23,.func (PySem.W.fnOf "_law_heap" "_law_heap" (Jbo Jdu) (Jbf Jdu) (Jai Jdu) .none kV23 dc23 pm23 an23 cd23 ct23),sl23⟩) (c23:PySem.W.codeIn K cd23 "_law_heap" = true) (k23:PySem.W.keepIn K (.ref f23) = true)
    (a24:PySem.W.nsIn K mainGlobals "_law_some_heap" = some (some (.ref f24))) (l24:K.lookup f24 = some ⟨oc24,od24,.func (PySem.W.fnOf "_law_some_heap" "_law_some_heap" (Jbo Jc4) (Jbf Jc4) (Jai Jc4) .none kV24 dc24 pm24 an24 cd24 ct24),sl24⟩) (c24:PySem.W.codeIn K cd24 "_law_some_heap" = true) (k24:PySem.W.keepIn K (.ref f24) = true)
    (a25:PySem.W.nsIn K mainGlobals "_law_holds" = some (some (.ref f25))) (l25:K.lookup f25 = some ⟨oc25,od25,.func (PySem.W.fnOf "_law_holds" "_law_holds" (Jbo Jep) (Jbf Jep) (Jai Jep) .none kV25 dc25 pm25 an25 cd25 ct25),sl25⟩) (c25:PySem.W.codeIn K cd25 "_law_holds" = true) (k25:PySem.W.keepIn K (.ref f25) = true)
    (a26:PySem.W.nsIn K mainGlobals "_law_spot" = some (some (.ref f26))) (l26:K.lookup f26 = some ⟨oc26,od26,.func (PySem.W.fnOf "_law_spot" "_law_spot" (Jbo Jd9) (Jbf Jd9) (Jai Jd9) .none kV26 dc26 pm26 an26 cd26 ct26),sl26⟩) (c26:PySem.W.codeIn K cd26 "_law_spot" = true) (k26:PySem.W.keepIn K (.ref f26) = true)
    (a27:PySem.W.nsIn K mainGlobals "_law_half" = some (some (.ref f27))) (l27:K.lookup f27 = some ⟨oc27,od27,.func (PySem.W.fnOf "_law_half" "_law_half" (Jbo Jeq) (Jbf Jeq) (Jai Jeq) .none kV27 dc27 pm27 an27 cd27 ct27),sl27⟩) (c27:PySem.W.codeIn K cd27 "_law_half" = true) (k27:PySem.W.keepIn K (.ref f27) = true)
    (a28:PySem.W.nsIn K mainGlobals "_law_two_right" = some (some (.ref f28))) (l28:K.lookup f28 = some ⟨oc28,od28,.func (PySem.W.fnOf "_law_two_right" "_law_two_right" (Jbo Jc3) (Jbf Jc3) (Jai Jc3) .none kV28 dc28 pm28 an28 cd28 ct28),sl28⟩) (c28:PySem.W.codeIn K cd28 "_law_two_right" = true) (k28:PySem.W.keepIn K (.ref f28) = true)
    (a29:PySem.W.nsIn K mainGlobals "_law_moved" = some (some (.ref f29))) (l29:K.lookup f29 = some ⟨oc29,od29,.func (PySem.W.fnOf "_law_moved" "_law_moved" (Jbo Jdp) (Jbf Jdp) (Jai Jdp) .none kV29 dc29 pm29 an29 cd29 ct29),sl29⟩) (c29:PySem.W.codeIn K cd29 "_law_moved" = true) (k29:PySem.W.keepIn K (.ref f29) = true)
    (a30:PySem.W.nsIn K mainGlobals "_law_spot_moved" = some (some (.ref f30))) (l30:K.lookup f30 = some ⟨oc30,od30,.func (PySem.W.fnOf "_law_spot_moved" "_law_spot_moved" (Jbo Jb7) (Jbf Jb7) (Jai Jb7) .none kV30 dc30 pm30 an30 cd30 ct30),sl30⟩) (c30:PySem.W.codeIn K cd30 "_law_spot_moved" = true) (k30:PySem.W.keepIn K (.ref f30) = true)
    (a31:PySem.W.nsIn K mainGlobals "law" = some (some (.ref f31))) (l31:K.lookup f31 = some ⟨oc31,od31,.func (PySem.W.fnOf "law" "law" (Jbo Jki) (Jbf Jki) (Jai Jki) .none kV31 dc31 pm31 an31 cd31 ct31),sl31⟩) (c31:PySem.W.codeIn K cd31 "law" = true) (k31:PySem.W.keepIn K (.ref f31) = true)
    (z1:PySem.W.nsIn K mainGlobals "len" = some none)
    (z2:PySem.W.nsIn K mainGlobals "isinstance" = some none)
    (z3:PySem.W.nsIn K mainGlobals "all" = some none)
    (z4:PySem.W.nsIn K mainGlobals "sorted" = some none)
    (z5:PySem.W.nsIn K mainGlobals "min" = some none)
    (z6:PySem.W.nsIn K mainGlobals "max" = some none)
    (z7:PySem.W.nsIn K mainGlobals "abs" = some none)
    (z8:PySem.W.nsIn K mainGlobals "repr" = some none)
    (z9:PySem.W.nsIn K mainGlobals "set" = some none)
    (z10:PySem.W.nsIn K mainGlobals "list" = some none)
    (z11:PySem.W.nsIn K mainGlobals "tuple" = some none)
    (z12:PySem.W.nsIn K mainGlobals "range" = some none)
    (z13:PySem.W.nsIn K mainGlobals "int" = some none)
    (z14:PySem.W.nsIn K mainGlobals "bool" = some none)
    (z15:PySem.W.nsIn K mainGlobals "str" = some none)
    (zBz:PySem.W.nsIn K mainGlobals "zip" = some none)
    (zBe:PySem.W.nsIn K mainGlobals "enumerate" = some none)
    {ep:Nat} {h1 h2 h3:Int} {t1 t2 t3 u1 u2 u3:Tok} (aM:PySem.W.nsIn K mainGlobals "MOST_BOXES" = some (some (.ref dM))) (hM:(dM == sysModules) = false)
    (lM:K.lookup dM = some { cls := .type "dict",data := .dict #[⟨h1,.int 1 t1,.int 20 u1⟩,⟨h2,.int 2 t2,.int 10 u2⟩,⟨h3,.int 3 t3,.int 6 u3⟩] ep }) (e1:h1 = hashInt 1) (e2:h2 = hashInt 2) (e3:h3 = hashInt 3)
    : ∃ fd:FuncData,(∀ (s:Shared) (v:Value),BindsTo s fd ⟨[v],[]⟩ [("script",v)]) ∧ ∀ base:Heap,K.In base → base.Ns mainGlobals mg → FnOk l.prog w K mg base CX0 8 fa fd ["script"] (Jp7 K) := by
  have e := hfa.symm.trans (PySem.W.mg_of X G a31)
  cases e
  have F1 := Jcr (st := Je9) l1 c1 k1
  have b1 := F1.binds (ps := ["thing"]) fun _ _ _ _ _ _ us hl => by obtain ⟨_,rfl⟩ := tln1 hl; rfl
  have F2 := Jcr (st := Jfb) l2 c2 k2
  have b2 := F2.binds (ps := ["thing"]) fun _ _ _ _ _ _ us hl => by obtain ⟨_,rfl⟩ := tln1 hl; rfl
  have F3 := Jcr (st := Jea) l3 c3 k3
  have b3 := F3.binds (ps := ["thing"]) fun _ _ _ _ _ _ us hl => by obtain ⟨_,rfl⟩ := tln1 hl; rfl
  have F4 := Jcr (st := Jgi) l4 c4 k4
  have b4 := F4.binds (ps := ["ways","thing"]) fun _ _ _ _ _ _ us hl => by obtain ⟨_,_,rfl⟩ := tln2 hl; rfl
  have F5 := Jcr (st := Jfe) l5 c5 k5
  have b5 := F5.binds (ps := ["thing"]) fun _ _ _ _ _ _ us hl => by obtain ⟨_,rfl⟩ := tln1 hl; rfl
  have F6 := Jcr (st := Jen) l6 c6 k6
  have b6 := F6.binds (ps := ["heap"]) fun _ _ _ _ _ _ us hl => by obtain ⟨_,rfl⟩ := tln1 hl; rfl
  have F7 := Jcr (st := Jd4) l7 c7 k7
  have b7 := F7.binds (ps := ["heap","spot"]) fun _ _ _ _ _ _ us hl => by obtain ⟨_,_,rfl⟩ := tln2 hl; rfl
  have F8 := Jcr (st := Jdj) l8 c8 k8
  have b8 := F8.binds (ps := ["heap","number"]) fun _ _ _ _ _ _ us hl => by obtain ⟨_,_,rfl⟩ := tln2 hl; rfl
  have F9 := Jcr (st := Jfa) l9 c9 k9
  have b9 := F9.binds (ps := ["box"]) fun _ _ _ _ _ _ us hl => by obtain ⟨_,rfl⟩ := tln1 hl; rfl
  have F10 := Jcr (st := Jh2) l10 c10 k10
  have b10 := F10.binds (ps := ["box","spot"]) fun _ _ _ _ _ _ us hl => by obtain ⟨_,_,rfl⟩ := tln2 hl; rfl
  have F11 := Jcr (st := Jf5) l11 c11 k11
  have b11 := F11.binds (ps := ["heap","number"]) fun _ _ _ _ _ _ us hl => by obtain ⟨_,_,rfl⟩ := tln2 hl; rfl
  have F12 := Jcr (st := Jet) l12 c12 k12
  have b12 := F12.binds (ps := ["heap","spot"]) fun _ _ _ _ _ _ us hl => by obtain ⟨_,_,rfl⟩ := tln2 hl; rfl
  have F13 := Jcr (st := Jer) l13 c13 k13
  have b13 := F13.binds (ps := ["heap","spot"]) fun _ _ _ _ _ _ us hl => by obtain ⟨_,_,rfl⟩ := tln2 hl; rfl
  have F14 := Jcr (st := Jc9) l14 c14 k14
  have b14 := F14.binds (ps := ["one","other"]) fun _ _ _ _ _ _ us hl => by obtain ⟨_,_,rfl⟩ := tln2 hl; rfl
  have F15 := Jcr (st := Jes) l15 c15 k15
  have b15 := F15.binds (ps := ["heap","one","other"]) fun _ _ _ _ _ _ us hl => by obtain ⟨_,_,_,rfl⟩ := tln3 hl; rfl
  have F16 := Jcr (st := Jc8) l16 c16 k16
  have b16 := F16.binds (ps := ["boxes","way"]) fun _ _ _ _ _ _ us hl => by obtain ⟨_,_,rfl⟩ := tln2 hl; rfl
  have F17 := Jcr (st := Jfd) l17 c17 k17
  have b17 := F17.binds (ps := ["heap"]) fun _ _ _ _ _ _ us hl => by obtain ⟨_,rfl⟩ := tln1 hl; rfl
  have F18 := Jcr (st := Je7) l18 c18 k18
  have b18 := F18.binds (ps := ["cell"]) fun _ _ _ _ _ _ us hl => by obtain ⟨_,rfl⟩ := tln1 hl; rfl
  have F19 := Jcr (st := Je8) l19 c19 k19
  have b19 := F19.binds (ps := ["well","many"]) fun _ _ _ _ _ _ us hl => by obtain ⟨_,_,rfl⟩ := tln2 hl; rfl
  have F20 := Jcr (st := Jd5) l20 c20 k20
  have b20 := F20.binds (ps := ["well","many"]) fun _ _ _ _ _ _ us hl => by obtain ⟨_,_,rfl⟩ := tln2 hl; rfl
  have F21 := Jcr (st := Jdt) l21 c21 k21
  have b21 := F21.binds (ps := ["well","marks"]) fun _ _ _ _ _ _ us hl => by obtain ⟨_,_,rfl⟩ := tln2 hl; rfl
  have F22 := Jcr (st := Jeo) l22 c22 k22
  have b22 := F22.binds (ps := ["well","box","marks"]) fun _ _ _ _ _ _ us hl => by obtain ⟨_,_,_,rfl⟩ := tln3 hl; rfl
  have F23 := Jcr (st := Jdu) l23 c23 k23
  have b23 := F23.binds (ps := ["well","ways","most"]) fun _ _ _ _ _ _ us hl => by obtain ⟨_,_,_,rfl⟩ := tln3 hl; rfl
  have F24 := Jcr (st := Jc4) l24 c24 k24
  have b24 := F24.binds (ps := ["well"]) fun _ _ _ _ _ _ us hl => by obtain ⟨_,rfl⟩ := tln1 hl; rfl
  have F25 := Jcr (st := Jep) l25 c25 k25
  have b25 := F25.binds (ps := ["box","spot"]) fun _ _ _ _ _ _ us hl => by obtain ⟨_,_,rfl⟩ := tln2 hl; rfl
  have F26 := Jcr (st := Jd9) l26 c26 k26
  have b26 := F26.binds (ps := ["well","heap"]) fun _ _ _ _ _ _ us hl => by obtain ⟨_,_,rfl⟩ := tln2 hl; rfl
  have F27 := Jcr (st := Jeq) l27 c27 k27
  have b27 := F27.binds (ps := ["heap"]) fun _ _ _ _ _ _ us hl => by obtain ⟨_,rfl⟩ := tln1 hl; rfl
  have F28 := Jcr (st := Jc3) l28 c28 k28
  have b28 := F28.binds (ps := ["heap","one","other","spot"]) fun _ _ _ _ _ _ us hl => by obtain ⟨_,_,_,_,rfl⟩ := tln4 hl; rfl
  have F29 := Jcr (st := Jdp) l29 c29 k29
  have b29 := F29.binds (ps := ["heap","by","mirrored","ways"]) fun _ _ _ _ _ _ us hl => by obtain ⟨_,_,_,_,rfl⟩ := tln4 hl; rfl
  have F30 := Jcr (st := Jb7) l30 c30 k30
  have b30 := F30.binds (ps := ["spot","by","mirrored","ways"]) fun _ _ _ _ _ _ us hl => by obtain ⟨_,_,_,_,rfl⟩ := tln4 hl; rfl
  have F31 := Jcr (st := Jki) l31 c31 k31
  have mM := PySem.W.mg_of X G aM
  have B:Blt mg := fun x hx => by
    simp only [Jmw,List.mem_cons,List.not_mem_nil,or_false] at hx
    rcases hx with rfl | rfl | rfl | rfl | rfl | rfl | rfl | rfl | rfl | rfl | rfl | rfl | rfl | rfl | rfl
    · exact PySem.W.mg_none_of X G z1
    · exact PySem.W.mg_none_of X G z2
    · exact PySem.W.mg_none_of X G z3
    · exact PySem.W.mg_none_of X G z4
    · exact PySem.W.mg_none_of X G z5
    · exact PySem.W.mg_none_of X G z6
    · exact PySem.W.mg_none_of X G z7
    · exact PySem.W.mg_none_of X G z8
    · exact PySem.W.mg_none_of X G z9
    · exact PySem.W.mg_none_of X G z10
    · exact PySem.W.mg_none_of X G z11
    · exact PySem.W.mg_none_of X G z12
    · exact PySem.W.mg_none_of X G z13
    · exact PySem.W.mg_none_of X G z14
    · exact PySem.W.mg_none_of X G z15
  have Bz:mg "zip" = none := PySem.W.mg_none_of X G zBz
  have Be:mg "enumerate" = none := PySem.W.mg_none_of X G zBe
  refine ⟨PySem.W.fnOf "law" "law" (Jbo Jki) (Jbf Jki) (Jai Jki) .none kV31 dc31 pm31 an31 cd31 ct31,fun s v => .of_eq rfl,fun base _ _ => ?_⟩
  have C_is_whole:CalP l.prog w K mg base "is_whole" 1 Jb1 := ⟨⟨["thing"],⟨_,_,Jo8 F1 B,b1,k1,PySem.W.mg_of X G a1⟩,fun ds r h => Jcp h⟩⟩
  have C_are_ways:CalP l.prog w K mg base "are_ways" 2 Jcm := ⟨⟨["thing"],⟨_,_,Jpb F2 B mM (tab3 hM lM e1 e2 e3 (by decide)) C_is_whole,b2,k2,PySem.W.mg_of X G a2⟩,fun ds r h => Jcp h⟩⟩
  have C_is_stretch:CalP l.prog w K mg base "is_stretch" 2 Jcb := ⟨⟨["thing"],⟨_,_,Jl9 F3 B C_is_whole,b3,k3,PySem.W.mg_of X G a3⟩,fun ds r h => Jcp h⟩⟩
  have C_is_box:CalP l.prog w K mg base "is_box" 3 Jc2 := ⟨⟨["ways","thing"],⟨_,_,Js2 F4 B C_are_ways C_is_stretch,b4,k4,PySem.W.mg_of X G a4⟩,fun ds r h => Jcp h⟩⟩
  have C_is_heap:CalP l.prog w K mg base "is_heap" 4 Jbz := ⟨⟨["thing"],⟨_,_,Jrn F5 B mM (tab3 hM lM e1 e2 e3 (by decide)) C_are_ways C_is_box,b5,k5,PySem.W.mg_of X G a5⟩,fun ds r h => Jcp h⟩⟩
  have C_need_heap:CalP l.prog w K mg base "need_heap" 5 Jbm := ⟨⟨["heap"],⟨_,_,Jng F6 B C_is_heap,b6,k6,PySem.W.mg_of X G a6⟩,fun ds r h => Jcp h⟩⟩
  have C_need_spot:CalP l.prog w K mg base "need_spot" 2 Jdb := ⟨⟨["heap","spot"],⟨_,_,Jnf F7 B C_is_whole,b7,k7,PySem.W.mg_of X G a7⟩,fun ds r h => Jcp h⟩⟩
  have C_numbered_box:CalP l.prog w K mg base "numbered_box" 2 Jbx := ⟨⟨["heap","number"],⟨_,_,Jkn F8 B C_is_whole,b8,k8,PySem.W.mg_of X G a8⟩,fun ds r h => Jcp h⟩⟩
  have C_box_size:CalP l.prog w K mg base "box_size" 1 Jd8 := ⟨⟨["box"],⟨_,_,Jpa F9 B,b9,k9,PySem.W.mg_of X G a9⟩,fun ds r h => Jcp h⟩⟩
  have C_holds:CalP l.prog w K mg base "holds" 1 Jf3 := ⟨⟨["box","spot"],⟨_,_,Jvh F10 B Bz,b10,k10,PySem.W.mg_of X G a10⟩,fun ds r h => Jcp h⟩⟩
  have C_size_of:CalP l.prog w K mg base "size_of" 6 Jba := ⟨⟨["heap","number"],⟨_,_,Jrm F11 B C_need_heap C_box_size C_numbered_box,b11,k11,PySem.W.mg_of X G a11⟩,fun ds r h => Jcp h⟩⟩
  have C_boxes_at:CalP l.prog w K mg base "boxes_at" 6 Jay := ⟨⟨["heap","spot"],⟨_,_,Jo9 F12 B Be C_need_heap C_need_spot C_holds,b12,k12,PySem.W.mg_of X G a12⟩,fun ds r h => Jcp h⟩⟩
  have C_how_often:CalP l.prog w K mg base "how_often" 7 Jcj := ⟨⟨["heap","spot"],⟨_,_,Jnk F13 B C_boxes_at,b13,k13,PySem.W.mg_of X G a13⟩,fun ds r h => Jcp h⟩⟩
  have C_shared_box:CalP l.prog w K mg base "shared_box" 3 Jcy := ⟨⟨["one","other"],⟨_,_,Jl8 F14 B Bz C_is_stretch,b14,k14,PySem.W.mg_of X G a14⟩,fun ds r h => Jcp h⟩⟩
  have C_common_of:CalP l.prog w K mg base "common_of" 6 Ja1 := ⟨⟨["heap","one","other"],⟨_,_,Jnl F15 B C_need_heap C_shared_box C_numbered_box,b15,k15,PySem.W.mg_of X G a15⟩,fun ds r h => Jcp h⟩⟩
  have C_span_along:CalP l.prog w K mg base "span_along" 1 Jdi := ⟨⟨["boxes","way"],⟨_,_,Jl7 F16 B,b16,k16,PySem.W.mg_of X G a16⟩,fun ds r h => Jcp h⟩⟩
  have C_span_of:CalP l.prog w K mg base "span_of" 6 Jcx := ⟨⟨["heap"],⟨_,_,Jrl F17 B C_need_heap C_span_along,b17,k17,PySem.W.mg_of X G a17⟩,fun ds r h => Jcp h⟩⟩
  have C_law_well:CalP l.prog w K mg base "_law_well" 1 Jdm := ⟨⟨["cell"],⟨_,_,Jo2 F18 B,b18,k18,PySem.W.mg_of X G a18⟩,fun ds r h => Jcp h⟩⟩
  have C_law_draw:CalM l.prog w K mg base "_law_draw" 1 Jah := ⟨⟨["well","many"],⟨_,_,Jo7 F19 B,b19,k19,PySem.W.mg_of X G a19⟩,fun ns ds r h => Jh4 h⟩⟩
  have C_law_marks:CalM l.prog w K mg base "_law_marks" 2 Jb5 := ⟨⟨["well","many"],⟨_,_,Jni F20 B C_law_draw,b20,k20,PySem.W.mg_of X G a20⟩,fun ns ds r h => Jh4 h⟩⟩
  have C_law_stretch:CalM l.prog w K mg base "_law_stretch" 2 Jb3 := ⟨⟨["well","marks"],⟨_,_,Jk6 F21 B C_law_draw,b21,k21,PySem.W.mg_of X G a21⟩,fun ns ds r h => Jh4 h⟩⟩
  have C_law_near:CalM l.prog w K mg base "_law_near" 3 Jcd := ⟨⟨["well","box","marks"],⟨_,_,Jo4 F22 B C_law_draw C_law_stretch,b22,k22,PySem.W.mg_of X G a22⟩,fun ns ds r h => Jh4 h⟩⟩
  have C_law_heap:CalM l.prog w K mg base "_law_heap" 4 Jcw := ⟨⟨["well","ways","most"],⟨_,_,Jo5 F23 B C_law_draw C_law_marks C_law_stretch C_law_near,b23,k23,PySem.W.mg_of X G a23⟩,fun ns ds r h => Jh4 h⟩⟩
  have C_law_some_heap:CalM l.prog w K mg base "_law_some_heap" 5 Jbb := ⟨⟨["well"],⟨_,_,Jj0 F24 B C_law_draw C_law_heap,b24,k24,PySem.W.mg_of X G a24⟩,fun ns ds r h => Jh4 h⟩⟩
  have C_law_holds:CalP l.prog w K mg base "_law_holds" 1 Jci := ⟨⟨["box","spot"],⟨_,_,Jnj F25 B,b25,k25,PySem.W.mg_of X G a25⟩,fun ds r h => Jcp h⟩⟩
  have C_law_spot:CalM l.prog w K mg base "_law_spot" 2 Jcv := ⟨⟨["well","heap"],⟨_,_,Jo3 F26 B C_law_draw,b26,k26,PySem.W.mg_of X G a26⟩,fun ns ds r h => Jh4 h⟩⟩
  have C_law_half:CalP l.prog w K mg base "_law_half" 1 Jdn := ⟨⟨["heap"],⟨_,_,Jo6 F27 B,b27,k27,PySem.W.mg_of X G a27⟩,fun ds r h => Jcp h⟩⟩
  have C_law_two_right:CalP l.prog w K mg base "_law_two_right" 7 Jb0 := ⟨⟨["heap","one","other","spot"],⟨_,_,Jjz F28 B C_common_of C_boxes_at C_is_box C_law_holds C_size_of,b28,k28,PySem.W.mg_of X G a28⟩,fun ds r h => Jcp h⟩⟩
  have C_law_moved:CalP l.prog w K mg base "_law_moved" 1 Jdc := ⟨⟨["heap","by","mirrored","ways"],⟨_,_,Jnh F29 B,b29,k29,PySem.W.mg_of X G a29⟩,fun ds r h => Jcp h⟩⟩
  have C_law_spot_moved:CalP l.prog w K mg base "_law_spot_moved" 1 Jb4 := ⟨⟨["spot","by","mirrored","ways"],⟨_,_,Jjb F30 B,b30,k30,PySem.W.mg_of X G a30⟩,fun ds r h => Jcp h⟩⟩
  exact (JBn F31 B C_law_well C_law_half C_law_some_heap C_law_draw C_law_moved C_is_heap C_law_spot C_boxes_at C_law_spot_moved C_how_often C_law_two_right C_common_of C_span_of C_size_of).imp (JBv Jvu)
theorem walk {l:PySem.W.OpenLaw} {q:Program} {loose:List Str} {XP:(Str → Option Value) → Heap → Prop} {YP:World → Heap → Prop} {d:DefRec} {K:Params → PySem.W.Frag} (hn:l.most = some 63) (hdf:d.params.defaults = [])
    (hY:∀ (w:World) (h:Heap),YP w h → (K w.params).In h)
    (F:∀ (w:World) (mg:Str → Option Value) (fa:Addr) (h:Heap),(K w.params).In h → h.Ns mainGlobals mg → mg d.name = some (.ref fa) →
      ∃ fd:FuncData,(∀ (s:Shared) (u:Value),BindsTo s fd ⟨[u],[]⟩ [("script",u)]) ∧ ∀ base:Heap,(K w.params).In base → base.Ns mainGlobals mg → FnOk l.prog w (K w.params) mg base CX0 8 fa fd ["script"] (Jp7 (K w.params))) :
    PySem.W.WalkO q loose XP YP l.row.toRowW d [] (fun f vs => PySem.call f vs) :=
  L2.Jus (n := 63) (k := 8) (x := "script") (CX := CX0) (sp := Jp7) hn (by decide) hdf ⟨rfl,by decide,by decide,rfl⟩ hY F (fun _ _ a ns hl hO hS => ⟨a,ns,rfl,hO,hl,hS,fun _ => rfl⟩) fun _ _ _ _ z => z
end W06
open PySem PySem.W PyProof.Rows
set_option maxRecDepth 100000 in
set_option maxHeartbeats 0 in
theorem PySem.Challenge.cw_boxcover_k06_whole_boxes_and_spots_holds : PySem.Challenge.rw_boxcover_k06_whole_boxes_and_spots.Holds := by
  w_on; o_law; k_head; (case hw => w_witness2)
  k_fill
  refine W06.walk (l := PySem.Challenge.rw_boxcover_k06_whole_boxes_and_spots) rfl rfl (fun w h Y => PySem.W.kIn_of Y) ?F
  case F =>
    intro w mg fa h KX G hmg
    refine' W06.tops KX G hmg ?a1 ?l1 ?c1 ?k1 ?a2 ?l2 ?c2 ?k2 ?a3 ?l3 ?c3 ?k3 ?a4 ?l4 ?c4 ?k4 ?a5 ?l5 ?c5 ?k5 ?a6 ?l6 ?c6 ?k6 ?a7 ?l7 ?c7 ?k7 ?a8 ?l8 ?c8 ?k8 ?a9 ?l9 ?c9 ?k9 ?a10 ?l10 ?c10 ?k10 ?a11 ?l11 ?c11 ?k11 ?a12 ?l12 ?c12 ?k12 ?a13 ?l13 ?c13 ?k13 ?a14 ?l14 ?c14 ?k14 ?a15 ?l15 ?c15 ?k15 ?a16 ?l16 ?c16 ?k16 ?a17 ?l17 ?c17 ?k17 ?a18 ?l18 ?c18 ?k18 ?a19 ?l19 ?c19 ?k19 ?a20 ?l20 ?c20 ?k20 ?a21 ?l21 ?c21 ?k21 ?a22 ?l22 ?c22 ?k22 ?a23 ?l23 ?c23 ?k23 ?a24 ?l24 ?c24 ?k24 ?a25 ?l25 ?c25 ?k25 ?a26 ?l26 ?c26 ?k26 ?a27 ?l27 ?c27 ?k27 ?a28 ?l28 ?c28 ?k28 ?a29 ?l29 ?c29 ?k29 ?a30 ?l30 ?c30 ?k30 ?a31 ?l31 ?c31 ?k31 ?z1 ?z2 ?z3 ?z4 ?z5 ?z6 ?z7 ?z8 ?z9 ?z10 ?z11 ?z12 ?z13 ?z14 ?z15 ?zBz ?zBe ?aM ?hM ?lM ?e1 ?e2 ?e3
    (case a1 => k_is); (case l1 => k_is); (case c1 => k_is); (case k1 => k_is)
    (case a2 => k_is); (case l2 => k_is); (case c2 => k_is); (case k2 => k_is)
    (case a3 => k_is); (case l3 => k_is); (case c3 => k_is); (case k3 => k_is)
    (case a4 => k_is); (case l4 => k_is); (case c4 => k_is); (case k4 => k_is)
    (case a5 => k_is); (case l5 => k_is); (case c5 => k_is); (case k5 => k_is)
    (case a6 => k_is); (case l6 => k_is); (case c6 => k_is); (case k6 => k_is)
    (case a7 => k_is); (case l7 => k_is); (case c7 => k_is); (case k7 => k_is)
    (case a8 => k_is); (case l8 => k_is); (case c8 => k_is); (case k8 => k_is)
    (case a9 => k_is); (case l9 => k_is); (case c9 => k_is); (case k9 => k_is)
    (case a10 => k_is); (case l10 => k_is); (case c10 => k_is); (case k10 => k_is)
    (case a11 => k_is); (case l11 => k_is); (case c11 => k_is); (case k11 => k_is)
    (case a12 => k_is); (case l12 => k_is); (case c12 => k_is); (case k12 => k_is)
    (case a13 => k_is); (case l13 => k_is); (case c13 => k_is); (case k13 => k_is)
    (case a14 => k_is); (case l14 => k_is); (case c14 => k_is); (case k14 => k_is)
    (case a15 => k_is); (case l15 => k_is); (case c15 => k_is); (case k15 => k_is)
    (case a16 => k_is); (case l16 => k_is); (case c16 => k_is); (case k16 => k_is)
    (case a17 => k_is); (case l17 => k_is); (case c17 => k_is); (case k17 => k_is)
    (case a18 => k_is); (case l18 => k_is); (case c18 => k_is); (case k18 => k_is)
    (case a19 => k_is); (case l19 => k_is); (case c19 => k_is); (case k19 => k_is)
    (case a20 => k_is); (case l20 => k_is); (case c20 => k_is); (case k20 => k_is)
    (case a21 => k_is); (case l21 => k_is); (case c21 => k_is); (case k21 => k_is)
    (case a22 => k_is); (case l22 => k_is); (case c22 => k_is); (case k22 => k_is)
    (case a23 => k_is); (case l23 => k_is); (case c23 => k_is); (case k23 => k_is)
    (case a24 => k_is); (case l24 => k_is); (case c24 => k_is); (case k24 => k_is)
    (case a25 => k_is); (case l25 => k_is); (case c25 => k_is); (case k25 => k_is)
    (case a26 => k_is); (case l26 => k_is); (case c26 => k_is); (case k26 => k_is)
    (case a27 => k_is); (case l27 => k_is); (case c27 => k_is); (case k27 => k_is)
    (case a28 => k_is); (case l28 => k_is); (case c28 => k_is); (case k28 => k_is)
    (case a29 => k_is); (case l29 => k_is); (case c29 => k_is); (case k29 => k_is)
    (case a30 => k_is); (case l30 => k_is); (case c30 => k_is); (case k30 => k_is)
    (case a31 => k_is); (case l31 => k_is); (case c31 => k_is); (case k31 => k_is)
    (case z1 => k_is); (case z2 => k_is); (case z3 => k_is); (case z4 => k_is); (case z5 => k_is); (case z6 => k_is); (case z7 => k_is); (case z8 => k_is); (case z9 => k_is); (case z10 => k_is); (case z11 => k_is); (case z12 => k_is); (case z13 => k_is); (case z14 => k_is); (case z15 => k_is)
    (case zBz => k_is)
    (case zBe => k_is)
    (case aM => k_is); (case lM => k_is)
    (case hM => rfl); (case e1 => rfl); (case e2 => rfl); (case e3 => rfl)
end
