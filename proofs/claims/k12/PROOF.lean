import PyProof.Rows.All
import Wide.All
import OpenK.AllK
import Wide.FinOn
import Lean
import PyProof.EqAt
import PyProof.EqKinds
import PyProof.TupleCall
import PyProof.SetKind
import PyProof.SetNew
import PyProof.SetRoads
import PyProof.Walks
import PyProof.Rows.SetListFold
import PyProof.Seq
import PyProof.Rows.SortShell
import PyProof.TupleIter
import PyProof.CollectWalk
import PyProof.ReprRoads
import PyProof.EqLayable
import PyProof.ReprLen
import PyProof.WalkInts
import PyProof.SeqI3
import PyProof.ListMulRoad
import PyProof.ZipIter
import PyProof.EnumFor
import PyProof.EnumMake
import PyProof.Draws
import PyProof.Rows.ZipGen
import PyProof.LayNew
import PyProof.WalksMore
import PyProof.IsiTupleAll
import PyProof.Rows.Range3
import PySem.Challenge.RW_boxcover_k12_cuts_told
section
set_option Elab.async false
set_option linter.all false
set_option maxRecDepth 100000
namespace L2
open PySem PySem.Spec PyProof.Rows

abbrev Key := Sum Int Str
def keyIs : Key → Value → Bool
  | .inl k, v => Value.isInt k v
  | .inr x, v => Value.isStrOf x v
def keyH (w : World) : Key → Int
  | .inl k => hashInt k
  | .inr x => hashStr w x
theorem keyIs_shape : ∀ {k : Key} {v : Value}, keyIs k v = true → (∃ i t, k = Sum.inl i ∧ v = Value.int i t) ∨ (∃ x t, k = Sum.inr x ∧ v = Value.str x t)
  | .inl i, v, h => by
    obtain ⟨t, e⟩ := Value.isInt_shape (k := i) (v := v) h
    exact .inl ⟨i, t, rfl, e⟩
  | .inr x, v, h => by
    obtain ⟨t, e⟩ := Value.isStrOf_shape (x := x) (v := v) h
    exact .inr ⟨x, t, rfl, e⟩
theorem key_ll (a b : Int) : decide ((Sum.inl a : Key) = Sum.inl b) = (a == b) := by
  by_cases e : a = b
  · subst e; simp
  · have h : ¬ (Sum.inl a : Key) = Sum.inl b := fun q => e (Sum.inl.inj q)
    rw [decide_eq_false h]
    exact (beq_eq_false_iff_ne.mpr e).symm
theorem key_rr (a b : Str) : decide ((Sum.inr a : Key) = Sum.inr b) = decide (a = b) := by
  by_cases e : a = b
  · subst e; simp
  · have h : ¬ (Sum.inr a : Key) = Sum.inr b := fun q => e (Sum.inr.inj q)
    rw [decide_eq_false h, decide_eq_false e]
theorem key_lr (a : Int) (b : Str) : decide ((Sum.inl a : Key) = Sum.inr b) = false := decide_eq_false (fun q => nomatch q)
theorem key_rl (a : Str) (b : Int) : decide ((Sum.inr a : Key) = Sum.inl b) = false := decide_eq_false (fun q => nomatch q)

def mixKind (prog : Program) (w : World) : PySem.KeyKind prog w Key where
  is := keyIs
  hash := keyH w
  inj := fun v a b ha hb => by
    rcases keyIs_shape ha with ⟨i, t, rfl, rfl⟩ | ⟨x, t, rfl, rfl⟩
    · rcases keyIs_shape hb with ⟨j, u, rfl, e⟩ | ⟨y, u, rfl, e⟩
      · injection e with e1 _; rw [e1]
      · exact nomatch e
    · rcases keyIs_shape hb with ⟨j, u, rfl, e⟩ | ⟨y, u, rfl, e⟩
      · exact nomatch e
      · injection e with e1 _; rw [e1]
  byValue := fun k v h => by
    rcases keyIs_shape h with ⟨i, t, rfl, rfl⟩ | ⟨x, t, rfl, rfl⟩ <;> rfl
  pyHash := fun hv h => by
    rcases keyIs_shape hv with ⟨i, t, rfl, rfl⟩ | ⟨x, t, rfl, rfl⟩
    · exact wpAny_pyHash_int h
    · exact wpAny_pyHash_str h
  eqBool := fun hu hv h => by
    rcases keyIs_shape hu with ⟨i, t, rfl, rfl⟩ | ⟨x, t, rfl, rfl⟩
    · rcases keyIs_shape hv with ⟨j, u, rfl, rfl⟩ | ⟨y, u, rfl, rfl⟩
      · rw [key_ll] at h; exact wpAny_eqBool_int h
      · rw [key_lr] at h; exact SeqAt.EqAt.int_str i t y u _ _ _ _ h
    · rcases keyIs_shape hv with ⟨j, u, rfl, rfl⟩ | ⟨y, u, rfl, rfl⟩
      · rw [key_rl] at h; exact SeqAt.EqAt.str_int x t j u _ _ _ _ h
      · rw [key_rr] at h; exact wpAny_eqBool_str h
  «strs» := fun k x t v h => by
    rcases keyIs_shape h with ⟨i, u, rfl, e⟩ | ⟨y, u, rfl, e⟩
    · exact nomatch e
    · injection e with e1 _
      subst e1
      cases v <;> rfl

end L2

namespace L2
open PySem PySem.Spec PyProof.Rows


inductive V where
  | non | bl (b : Bool) | int (i : Int) | str (x : Str) | byt (b : Array UInt8) | flt (b : UInt64) | ref (a : Addr) | ty (n : String)
  deriving DecidableEq

def RelV : V → Value → Prop
  | .non, u => u = Value.none
  | .bl b, u => u = Value.bool b
  | .int i, u => ∃ t, u = Value.int i t
  | .str x, u => ∃ t, u = Value.str x t
  | .byt b, u => ∃ t, u = Value.bytes b t
  | .flt b, u => ∃ t, u = Value.float b t
  | .ref a, u => u = Value.ref a
  | .ty n, u => u = Value.type n

abbrev Vals : List V → List Value → Prop := Paired RelV
theorem Vals.length {xs : List V} {us : List Value} (r : Vals xs us) : xs.length = us.length := Paired.length r
theorem Vals.get : ∀ {xs : List V} {us : List Value} {i : Nat} {x : V}, Vals xs us → xs[i]? = some x → ∃ u, us[i]? = some u ∧ RelV x u
  | _, _, _, _, .nil, e => by simp at e
  | _, _, 0, _, .cons r _, e => by simp at e; subst e; exact ⟨_, rfl, r⟩
  | _, _, i + 1, x, .cons _ t, e => by
    obtain ⟨u, h1, h2⟩ := Vals.get (i := i) (x := x) t (by simpa using e)
    exact ⟨u, by simpa using h1, h2⟩
theorem Vals.set {x : V} {u : Value} (r : RelV x u) : ∀ {xs : List V} {us : List Value} (i : Nat), Vals xs us → Vals (xs.set i x) (us.set i u)
  | _, _, _, .nil => .nil
  | _, _, 0, .cons _ t => .cons r t
  | _, _, i + 1, .cons q t => .cons q (Vals.set r i t)
theorem Vals.append : ∀ {xs ys : List V} {us ws : List Value}, Vals xs us → Vals ys ws → Vals (xs ++ ys) (us ++ ws)
  | _, _, _, _, .nil, s => s
  | _, _, _, _, .cons r t, s => .cons r (Vals.append t s)
theorem Vals.take : ∀ {xs : List V} {us : List Value} (n : Nat), Vals xs us → Vals (xs.take n) (us.take n)
  | _, _, 0, _ => .nil
  | _, _, _ + 1, .nil => .nil
  | _, _, n + 1, .cons r t => .cons r (Vals.take n t)
theorem Vals.drop : ∀ {xs : List V} {us : List Value} (n : Nat), Vals xs us → Vals (xs.drop n) (us.drop n)
  | _, _, 0, r => r
  | _, _, _ + 1, .nil => .nil
  | _, _, n + 1, .cons _ t => Vals.drop n t
def RelO : Option V → Option Value → Prop
  | some v, some u => RelV v u
  | none, none => True
  | _, _ => False
def KV {κ : Type} : List (κ × V) → List (κ × Value) → Prop := Paired fun (p : κ × V) (q : κ × Value) => p.1 = q.1 ∧ RelV p.2 q.2

def kV : Key → V
  | .inl i => .int i
  | .inr x => .str x


inductive HO where
  /-- a list -/
  | lst (xs : List V)
  /-- a tuple (never changes) -/
  | tup (xs : List V)
  /-- a dict whose keys are ints and texts; one whose keys are tuples of ints and texts (the empty one is both) -/
  | dK (kvs : List (Key × V)) | dT (kvs : List (List Key × V))
  /-- a set of ints: its members, its size -/
  | set (S : Int → Bool) (n : Nat)
  /-- an instance of the class at C, its dict at dx, its attributes -/
  | ins (C dx : Addr) (fs : List (Str × V))
  /-- the dict of the instance at x -/
  | own (x : Addr)
  /-- the dict of an exception -/
  | xd (fs : List (Str × V))
  /-- a bound method, f of x -/
  | met (f x : Addr)
  /-- a range object lo, lo + 1, .. below hi -/
  | rng (lo hi : Int)
  /-- a thing that is known to the object (the script; a dict while a loop walks it): read, never written while it is so -/
  | frz (o : Obj) (u : HO)
  /-- a code object's table -/
  | tbl (ps : Array Value)
  /-- any other thing, by what is true of its one object (a def of one's own: SetO a S n := HO.ext fun h => ..) -/
  | ext (φ : Heap → Prop)

abbrev Hp := Addr → Option HO
def upd (H : Hp) (a : Addr) (o : HO) : Hp := fun b => if b = a then some o else H b
theorem upd_same {H : Hp} {a : Addr} {o : HO} : upd H a o a = some o := by unfold upd; rw [if_pos rfl]
theorem upd_ne {H : Hp} {a b : Addr} {o : HO} (h : b ≠ a) : upd H a o b = H b := by unfold upd; rw [if_neg h]
theorem ne_of_none {H : Hp} {a b : Addr} {o : HO} (h : H a = some o) (h' : H b = none) : a ≠ b := by
  intro e; subst e; rw [h] at h'; cases h'

section
variable (P : Program) (w : World)
def ObjOk (H : Hp) (h : Heap) (a : Addr) : HO → Prop
  | .lst xs => xs.length ≤ sizeLine ∧ ∃ (its : List Value) (n : Nat), Vals xs its ∧ h.get? a = some { cls := .type "list", data := .seq its.toArray n }
  | .tup xs => xs.length ≤ sizeLine ∧ ∃ its : List Value, Vals xs its ∧ IsTup h a its.toArray
  | .dK kvs => kvs.length ≤ sizeLine ∧ (a == sysModules) = false ∧ ∃ vs, KV kvs vs ∧ h.DictOf (mixKind P w) a vs
  | .dT kvs => kvs.length ≤ sizeLine ∧ (a == sysModules) = false ∧ ∃ xs : List (List Key × Addr × Value),
      Paired (fun (p : List Key × V) (q : List Key × Addr × Value) => p.1 = q.1 ∧ H q.2.1 = some (.tup (p.1.map kV)) ∧ RelV p.2 q.2.2) kvs xs ∧
      ∃ o es ep, h.get? a = some o ∧ o.ExactDict ∧ o.data = .dict es ep ∧ es.toList = xs.map (entryOfKey (tupleKind (mixKind P w))) ∧ (xs.map (·.1)).Nodup
  | .set S n => h.SetOf (intKind P w) a S n
  | .ins C dx fs => H dx = some (.own a) ∧ fs.length ≤ 1000 ∧ dx ≠ a ∧ h.get? a = some (PySem.W.instObj C dx) ∧
      ∃ mA, h.Ns1 dx mA ∧ (∀ f, RelO (fs.lookup f) (mA f)) ∧ PySem.Within mA (fs.map (·.1))
  | .own _ => ∃ o, h.get? a = some o
  | .xd fs => ∃ mA, h.Ns1 a mA ∧ ∀ f, RelO (fs.lookup f) (mA f)
  | .rng lo hi => ∃ t u v, h.get? a = some { cls := .type "range", data := .fields #[.int lo t, .int hi u, .int 1 v] }
  | .frz o u => h.get? a = some o ∧ ObjOk H h a u
  | .tbl ps => h.get? a = some { cls := .none, data := .fields ps }
  | .met f x => h.get? a = some (PySem.W.methodObj (.ref f) (.ref x))
  | .ext φ => φ h ∧ (∃ o, h.get? a = some o) ∧ ∀ h1 h2 : Heap, φ h1 → (∀ o, h1.get? a = some o → h2.get? a = some o) → φ h2
def HOk (H : Hp) (h : Heap) : Prop := ∀ a o, H a = some o → ObjOk P w H h a o
end

section
variable {P : Program} {w : World} {H H' : Hp} {h h' : Heap} {a : Addr} {o : HO}
theorem ObjOk.lt (x : ObjOk P w H h a o) : a < h.objs.size := by
  cases o with
  | lst xs => obtain ⟨_, _, _, _, e⟩ := x; exact Heap.lt_size e
  | tup xs => obtain ⟨_, _, _, p⟩ := x; exact p.lt
  | dK kvs => obtain ⟨_, _, _, _, o, _, _, e, _⟩ := x; exact Heap.lt_size e
  | dT kvs => obtain ⟨_, _, _, _, o, _, _, e, _⟩ := x; exact Heap.lt_size e
  | set S n => obtain ⟨o, _, _, _, e, _⟩ := x; exact Heap.lt_size e
  | ins C dx fs => obtain ⟨_, _, _, e, _⟩ := x; exact Heap.lt_size e
  | own y => obtain ⟨_, e⟩ := x; exact Heap.lt_size e
  | xd fs => obtain ⟨_, ⟨_, _, _, e, _⟩, _⟩ := x; exact Heap.lt_size e
  | rng lo hi => obtain ⟨_, _, _, e⟩ := x; exact Heap.lt_size e
  | frz ob u => obtain ⟨e, _⟩ := x; exact Heap.lt_size e
  | tbl ps => exact Heap.lt_size (show h.get? a = some _ from x)
  | met f y => exact Heap.lt_size (show h.get? a = some _ from x)
  | ext φ => obtain ⟨_, ⟨_, e⟩, _⟩ := x; exact Heap.lt_size e
theorem Paired.mapP {α β : Type} {F G : α → β → Prop} : ∀ {l₁ : List α} {l₂ : List β}, Paired F l₁ l₂ → (∀ a b, F a b → G a b) → Paired G l₁ l₂
  | _, _, .nil, _ => .nil
  | _, _, .cons r t, f => .cons (f _ _ r) (Paired.mapP t f)
theorem ObjOk.stay (x : ObjOk P w H h a o) (k : ∀ b u, (b = a ∨ H b = some (.own a)) → h.get? b = some u → h'.get? b = some u)
    (ho : ∀ b, H b = some (.own a) → H' b = some (.own a)) (ht : ∀ b xs, H b = some (.tup xs) → H' b = some (.tup xs)) : ObjOk P w H' h' a o := by
  induction o with
  | lst xs => obtain ⟨z, its, n, r, e⟩ := x; exact ⟨z, its, n, r, k _ _ (.inl rfl) e⟩
  | tup xs => obtain ⟨z, its, r, ob, e, c⟩ := x; exact ⟨z, its, r, ob, k _ _ (.inl rfl) e, c⟩
  | dK kvs => obtain ⟨z, y, vs, r, ob, es, ep, e, c⟩ := x; exact ⟨z, y, vs, r, ob, es, ep, k _ _ (.inl rfl) e, c⟩
  | dT kvs =>
    obtain ⟨z, y, xs, r, ob, es, ep, e, c⟩ := x
    exact ⟨z, y, xs, Paired.mapP r fun p q z => ⟨z.1, ht _ _ z.2.1, z.2.2⟩, ob, es, ep, k _ _ (.inl rfl) e, c⟩
  | set S n => obtain ⟨ob, es, ep, t, e, c⟩ := x; exact ⟨ob, es, ep, t, k _ _ (.inl rfl) e, c⟩
  | ins C dx fs =>
    obtain ⟨d, z, ne, e, mA, ⟨od, es, ep, e2, c⟩, r⟩ := x
    exact ⟨ho _ d, z, ne, k _ _ (.inl rfl) e, mA, ⟨od, es, ep, k _ _ (.inr d) e2, c⟩, r⟩
  | own y => obtain ⟨ob, e⟩ := x; exact ⟨ob, k _ _ (.inl rfl) e⟩
  | xd fs => obtain ⟨mA, ⟨od, es, ep, e, c⟩, r⟩ := x; exact ⟨mA, ⟨od, es, ep, k _ _ (.inl rfl) e, c⟩, r⟩
  | rng lo hi => obtain ⟨t, u, v, e⟩ := x; exact ⟨t, u, v, k _ _ (.inl rfl) e⟩
  | frz ob u ih => obtain ⟨e, q⟩ := x; exact ⟨k _ _ (.inl rfl) e, ih q⟩
  | tbl ps =>
    have e : h.get? a = some { cls := .none, data := .fields ps } := x
    show h'.get? a = some { cls := .none, data := .fields ps }
    exact k a _ (.inl rfl) e
  | met f y =>
    have e : h.get? a = some (PySem.W.methodObj (.ref f) (.ref y)) := x
    show h'.get? a = some (PySem.W.methodObj (.ref f) (.ref y))
    exact k a _ (.inl rfl) e
  | ext φ => obtain ⟨p, ⟨o, e⟩, st⟩ := x; exact ⟨st _ _ p fun o q => k _ _ (.inl rfl) q, ⟨o, k _ _ (.inl rfl) e⟩, st⟩
theorem HOk.lt (x : HOk P w H h) (e : H a = some o) : a < h.objs.size := (x a o e).lt
theorem HOk.fresh (x : HOk P w H h) (e : h.objs.size ≤ a) : H a = none := by
  cases q : H a with
  | none => rfl
  | some u => exact absurd (Nat.lt_of_lt_of_le (x.lt q) e) (Nat.lt_irrefl _)
theorem HOk.kept (x : HOk P w H h) (k : ∀ b u, h.get? b = some u → h'.get? b = some u) : HOk P w H h' := fun a o e =>
  (x a o e).stay (fun b u _ q => k b u q) (fun _ q => q) fun _ _ q => q
theorem HOk.laid (x : HOk P w H h) (k : ∀ b u, h.get? b = some u → h'.get? b = some u) (hp : h.objs.size ≤ a) (new : ObjOk P w (upd H a o) h' a o) : HOk P w (upd H a o) h' := fun b u e => by
  have hn := x.fresh hp
  by_cases hb : b = a
  · subst hb; rw [upd_same] at e; cases e; exact new
  · rw [upd_ne hb] at e
    exact (x b u e).stay (fun c v _ q => k c v q) (fun c q => by rw [upd_ne (ne_of_none q hn)]; exact q) fun c xs q => by rw [upd_ne (ne_of_none q hn)]; exact q
end

def Rd (H : Hp) (a : Addr) (u : HO) : Prop := H a = some u ∨ ∃ o, H a = some (.frz o u)
theorem Rd.of {H : Hp} {a : Addr} {u : HO} (h : H a = some u) : Rd H a u := .inl h
theorem Rd.ok {P : Program} {w : World} {H : Hp} {h : Heap} {a : Addr} {u : HO} (r : Rd H a u) (x : HOk P w H h) : ObjOk P w H h a u := by
  rcases r with r | ⟨o, r⟩
  · exact x a u r
  · obtain ⟨_, q⟩ := x a _ r
    exact q
def Mut : Option HO → Prop
  | some (.lst _) => True
  | some (.dK _) => True
  | some (.dT _) => True
  | some (.set _ _) => True
  | some (.ins _ _ _) => True
  | some (.ext _) => True
  | _ => False
section
variable {P : Program} {w : World} {H : Hp} {h h' : Heap} {x e : Addr} {o' : HO}
theorem HOk.write (ok : HOk P w H h) (mu : Mut (H x)) (he : e = x ∨ H e = some (.own x)) (k : ∀ b u, b ≠ e → h.get? b = some u → h'.get? b = some u) (heo : ∃ u, h'.get? e = some u)
    (new : ObjOk P w (upd H x o') h' x o') : HOk P w (upd H x o') h' := fun b u q => by
  have nown : ∀ c y, H c = some (.own y) → c ≠ x := fun c y r z => by subst z; rw [r] at mu; exact mu
  have ntup : ∀ c xs, H c = some (.tup xs) → c ≠ x := fun c xs r z => by subst z; rw [r] at mu; exact mu
  by_cases hb : b = x
  · subst hb; rw [upd_same] at q; cases q; exact new
  · rw [upd_ne hb] at q
    by_cases hbe : b = e
    · have q' : H b = some (.own x) := by
        rcases he with z | z
        · exact absurd (hbe.trans z) hb
        · rw [hbe]; exact z
      rw [q] at q'; cases q'
      obtain ⟨v, hv⟩ := heo
      exact ⟨v, by rw [hbe]; exact hv⟩
    · refine (ok b u q).stay (fun c v hc r => k c v ?_ r) (fun c r => by rw [upd_ne (nown c b r)]; exact r) fun c xs r => by rw [upd_ne (ntup c xs r)]; exact r
      rcases hc with rfl | hc
      · exact hbe
      · rintro rfl
        rcases he with z | z
        · exact nown c b hc z
        · rw [hc] at z; cases z; exact hb rfl
end

structure Un (fs ex : List Addr) (H H' : Hp) (h h' : Heap) : Prop where
  keep : ∀ b o, h.get? b = some o → H b = none → b ∉ fs → b ∉ ex → h'.get? b = some o
  slot : ∀ b o, h.get? b = some o → H b = none → b ∈ fs → b ∉ ex → ∃ sl, h'.get? b = some { o with slots := sl }
  free : ∀ b o, h.get? b = some o → H b = none → b ∉ ex → H' b = none
  there : ∀ b o, h.get? b = some o → b ∉ ex → ∃ o', h'.get? b = some o'
  tups : ∀ b xs, H b = some (.tup xs) → H' b = some (.tup xs)
  frzs : ∀ b o u, H b = some (.frz o u) → H' b = some (.frz o u)
  tbls : ∀ b ps, H b = some (.tbl ps) → ∃ more, H' b = some (.tbl (ps ++ more))
  sy : H sysModules = none → H' sysModules = none
section
variable {fs fs' ex ex' : List Addr} {H H1 H2 : Hp} {h h1 h2 h' : Heap} {a x e : Addr} {o : HO}
theorem Un.any (u : Un fs ex H H1 h h1) {b : Addr} {ob : Obj} (q : h.get? b = some ob) (n : H b = none) (hx : b ∉ ex) : ∃ sl, h1.get? b = some { ob with slots := sl } := by
  by_cases hb : b ∈ fs
  · exact u.slot b ob q n hb hx
  · exact ⟨ob.slots, u.keep b ob q n hb hx⟩
theorem Un.trans (a : Un fs ex H H1 h h1) (b : Un fs ex H1 H2 h1 h2) : Un fs ex H H2 h h2 where
  keep := fun c ob q n hc hx => b.keep c ob (a.keep c ob q n hc hx) (a.free c ob q n hx) hc hx
  slot := fun c ob q n hc hx => by
    obtain ⟨sl, e1⟩ := a.slot c ob q n hc hx
    obtain ⟨sl', e2⟩ := b.slot c _ e1 (a.free c ob q n hx) hc hx
    exact ⟨sl', e2⟩
  free := fun c ob q n hx => by
    obtain ⟨o', e1⟩ := a.there c ob q hx
    exact b.free c o' e1 (a.free c ob q n hx) hx
  there := fun c ob q hx => by
    obtain ⟨o', e1⟩ := a.there c ob q hx
    exact b.there c o' e1 hx
  tups := fun c xs q => b.tups c xs (a.tups c xs q)
  frzs := fun c ob xs q => b.frzs c ob xs (a.frzs c ob xs q)
  tbls := fun c ps q => by
    obtain ⟨m1, e1⟩ := a.tbls c ps q
    obtain ⟨m2, e2⟩ := b.tbls c _ e1
    exact ⟨m1 ++ m2, by rw [e2, Array.append_assoc]⟩
  sy := fun n => b.sy (a.sy n)
theorem Un.kept (k : ∀ b u, h.get? b = some u → h'.get? b = some u) : Un fs ex H H h h' :=
  ⟨fun b ob q _ _ _ => k b ob q, fun b ob q _ _ _ => ⟨ob.slots, k b ob q⟩, fun _ _ _ n _ => n, fun b ob q _ => ⟨ob, k b ob q⟩, fun _ _ q => q, fun _ _ _ q => q, fun _ ps q => ⟨#[], by rw [q]; simp⟩, id⟩
theorem Un.refl : Un fs ex H H h h := Un.kept fun _ _ q => q
theorem Un.laid (k : ∀ b u, h.get? b = some u → h'.get? b = some u) (hp : h.objs.size ≤ a) (hn : H a = none) (hsy : sysModules ≠ a) : Un fs ex H (upd H a o) h h' where
  sy := fun n => by rw [upd_ne hsy]; exact n
  keep := fun b u q _ _ _ => k b u q
  slot := fun b u q _ _ _ => ⟨u.slots, k b u q⟩
  free := fun b u q n _ => by rw [upd_ne (Nat.ne_of_lt (Nat.lt_of_lt_of_le (Heap.lt_size q) hp))]; exact n
  there := fun b u q _ => ⟨u, k b u q⟩
  tups := fun b xs q => by rw [upd_ne (ne_of_none q hn)]; exact q
  frzs := fun b u xs q => by rw [upd_ne (ne_of_none q hn)]; exact q
  tbls := fun b ps q => ⟨#[], by rw [upd_ne (ne_of_none q hn), q]; simp⟩
theorem Un.write (mu : Mut (H x)) (he : e = x ∨ H e = some (.own x)) (k : ∀ b u, b ≠ e → h.get? b = some u → h'.get? b = some u) (heo : ∃ u, h'.get? e = some u) : Un fs ex H (upd H x o) h h' := by
  have hx : ∀ b, H b = none → b ≠ x := fun b n z => by subst z; rw [n] at mu; exact mu
  have hb : ∀ b, H b = none → b ≠ e := fun b n z => by
    subst z
    rcases he with r | r
    · exact hx b n r
    · rw [n] at r; cases r
  have hm : ∀ b u, H b = some u → ¬ Mut (some u) → b ≠ x := fun b u q nm z => by subst z; rw [q] at mu; exact nm mu
  refine ⟨fun b u q n _ _ => k b u (hb b n) q, fun b u q n _ _ => ⟨u.slots, k b u (hb b n) q⟩, fun b u q n _ => by rw [upd_ne (hx b n)]; exact n, fun b u q _ => ?_,
    fun b xs q => by rw [upd_ne (hm b _ q fun z => z)]; exact q, fun b u xs q => by rw [upd_ne (hm b _ q fun z => z)]; exact q, fun b ps q => ⟨#[], by rw [upd_ne (hm b _ q fun z => z), q]; simp⟩, fun n => by rw [upd_ne (hx _ n)]; exact n⟩
  by_cases hbe : b = e
  · subst hbe; exact heo
  · exact ⟨u, k b u hbe q⟩
theorem Un.mono (u : Un fs ex H H1 h h1) (hs : ∀ b ∈ fs, b ∈ fs') (hx : ∀ b ∈ ex, b ∈ ex') : Un fs' ex' H H1 h h1 :=
  ⟨fun b ob q n hb he => u.keep b ob q n (fun z => hb (hs b z)) fun z => he (hx b z), fun _ _ q n _ he => u.any q n fun z => he (hx _ z), fun b ob q n he => u.free b ob q n fun z => he (hx b z), fun b ob q he => u.there b ob q fun z => he (hx b z), u.tups, u.frzs, u.tbls, u.sy⟩
end

def trk (h : Heap) (H : Hp) : List Addr := (List.range h.objs.size).filter fun a => (H a).isSome
def hidT (h : Heap) (H : Hp) : Heap := PySem.W.hideAll h (trk h H)
theorem hidT_size (h : Heap) (H : Hp) : (hidT h H).objs.size = h.objs.size := PySem.W.hideAll_size _ _
theorem hidT_get {h : Heap} {H : Hp} {b : Addr} {o : Obj} (e : h.get? b = some o) (n : H b = none) : (hidT h H).get? b = some o :=
  PySem.W.hideAll_get _ e fun hm => by
    have q : (H b).isSome = true := (List.mem_filter.mp hm).2
    rw [n] at q; simp at q
theorem of_hidT {h : Heap} {H : Hp} {b : Addr} {o : Obj} (e : (hidT h H).get? b = some o) : h.get? b = some o ∧ H b = none := by
  have e' : h.get? b = some o := PySem.W.of_hideAll (trk h H) e
  refine ⟨e', ?_⟩
  cases q : H b with
  | none => rfl
  | some x =>
    have hm : b ∈ trk h H := List.mem_filter.mpr ⟨List.mem_range.mpr (Heap.lt_size e'), by simp [q]⟩
    have z : (hidT h H).get? b = none := PySem.W.hideAll_none (trk h H) hm
    rw [z] at e; cases e

def allNews (g h : Heap) (L : Addr) : List (Addr × Obj) := (List.range h.objs.size).filterMap fun a => if a = L ∨ (g.get? a).isSome = true then none else (h.get? a).map fun o => (a, o)
def rest (g h : Heap) (L d : Addr) : List (Addr × Obj) := (allNews g h L).filter fun p => decide (p.1 ≠ d)
end L2

namespace L2
open PySem PySem.Spec PyProof.Rows


structure Mod (K : PySem.W.Frag) (mg : Str → Option Value) (base : Heap) : Prop where
  kin : K.In base
  glob : base.Ns mainGlobals mg
  blt : ∃ mb, base.Ns builtinsNs mb ∧ ∀ x : Str, x ≠ "__name__" → mb x = bootBuiltins x
  nolimit : base.NoLimit

/-- the context: a def's body (or a comprehension's block) running. base: fixed through the whole law; s₀, H₀: the entry; outer: the frames whose slots others may change (a def's callers); stack: all frames that run;
   ex: iterators that were made ahead of the entry and are walked here (a comprehension's); fn: the names whose cells were made at the entry (a def: all; a comprehension's block: its own); calm: not within an except suite; pn: pins that every state bears; xe: what is wanted of an exception that leaves the code -/
structure Cx where
  prog : Program
  w : World
  K : PySem.W.Frag
  mg : Str → Option Value
  base : Heap
  A : Around
  N : List Str
  s₀ : Shared
  H₀ : Hp
  env : Env
  outer : List Env
  stack : List Env
  ex : List Addr
  fn : Str → Bool
  calm : Bool
  pn : List (Addr × Obj)
  xe : Value → Shared → Prop
def frs (l : List Env) : List Addr := l.filterMap (·.frame)
abbrev Cx.fs (X : Cx) : List Addr := frs X.outer

def Vis (sc : Scope) (x : Str) : Prop := sc.names.lookup x = some .local ∨ sc.names.lookup x = some .cell ∨ sc.names.lookup x = some .free
def Loc (sc : Scope) (x : Str) : Prop := sc.names.lookup x = some .local ∨ sc.names.lookup x = some .cell
def Look (env : Env) (h : Heap) (m : Str → Option Value) (x : Str) (u : Value) : Prop :=
  (env.kindOf x = some .local ∧ m x = some u) ∨ ((env.kindOf x = some .cell ∨ env.kindOf x = some .free) ∧ ∃ c, env.cells.lookup x = some c ∧ h.IsCell c (some u))

structure Cx.Ok (X : Cx) : Prop where
  mod : Mod X.K X.mg X.base
  kind : X.env.scope.kind = .function
  glob : X.env.globals = mainGlobals
  blt : X.env.builtins = builtinsNs
  above : X.s₀.heap.objs.size ≤ X.env.locals
  inj : ∀ x y c, X.env.cells.lookup x = some c → X.env.cells.lookup y = some c → x = y
  has : ∀ x, (X.env.kindOf x = some .cell ∨ X.env.kindOf x = some .free) → ∃ c, X.env.cells.lookup x = some c
  cab : ∀ x c, X.fn x = true → X.env.cells.lookup x = some c → X.s₀.heap.objs.size ≤ c
  hd : X.calm = true → X.A.handled = none
  frames : X.A.frames = some X.stack
  stk : X.stack = X.outer ∨ (X.stack = X.env :: X.outer ∧ X.env.frame = some X.env.locals)
  exf : ∀ b ∈ X.ex, b ≠ X.env.locals ∧ ∀ x c, X.env.cells.lookup x = some c → c ≠ b
  bs : ∀ b o, X.base.get? b = some o → X.s₀.heap.get? b = some o ∧ X.H₀ b = none
  bsz : X.base.objs.size ≤ X.s₀.heap.objs.size
  noex : ∀ b o, X.base.get? b = some o → b ∉ X.ex
  exfs : ∀ b ∈ X.ex, b ∉ X.fs
  funs : X.s₀.heap.FunFrames X.base X.outer
  frf : ∀ b ∈ X.fs, X.H₀ b = none
  sy : X.H₀ sysModules = none

structure Inv (X : Cx) (pins : List (Addr × Obj)) (σ : List (Option V)) (H : Hp) (s : Shared) : Prop where
  ok : X.Ok
  os : s.os = X.s₀.os
  bare : AllBare s.gens
  base : Un X.fs X.ex X.H₀ H X.s₀.heap s.heap
  loc : ∃ m, s.heap.Ns X.env.locals m ∧ ∀ (i : Nat) (x : Str) (v : V), X.N[i]? = some x → σ[i]? = some (some v) → Vis X.env.scope x → ∃ u, RelV v u ∧ Look X.env s.heap m x u
  cell : ∀ x c, X.env.cells.lookup x = some c → ∃ v, s.heap.IsCell c v
  free : H X.env.locals = none
  freeC : ∀ x c, X.env.cells.lookup x = some c → H c = none
  pin : ∀ p ∈ X.pn ++ pins, s.heap.get? p.1 = some p.2 ∧ H p.1 = none ∧ p.1 ≠ X.env.locals ∧ p.1 ∉ X.fs ∧ ∀ v, p.2.data ≠ .cell v
  hok : HOk X.prog X.w H s.heap
  len : σ.length = X.N.length

section
variable {X : Cx} {pins : List (Addr × Obj)} {σ : List (Option V)} {H H' : Hp} {s : Shared} {h' : Heap}

theorem Cx.Ok.nofr (ok : X.Ok) {b : Addr} {o : Obj} (e : X.base.get? b = some o) : b ∉ X.fs := fun hb => by
  have := (ok.funs.mem hb).1
  rw [e] at this; cases this
theorem Inv.bs (I : Inv X pins σ H s) : ∀ b o, X.base.get? b = some o → s.heap.get? b = some o ∧ H b = none := fun b o e =>
  ⟨I.base.keep b o (I.ok.bs b o e).1 (I.ok.bs b o e).2 (I.ok.nofr e) (I.ok.noex b o e), I.base.free b o (I.ok.bs b o e).1 (I.ok.bs b o e).2 (I.ok.noex b o e)⟩
theorem Inv.bk (I : Inv X pins σ H s) : ∀ b o, X.base.get? b = some o → s.heap.get? b = some o := fun b o e => (I.bs b o e).1
theorem Inv.mod (I : Inv X pins σ H s) : Mod X.K X.mg X.base := I.ok.mod
theorem Inv.kIn (I : Inv X pins σ H s) : X.K.In s.heap := I.ok.mod.kin.keeps I.bk
theorem Inv.nolimit (I : Inv X pins σ H s) : s.heap.NoLimit := I.ok.mod.nolimit.keeps I.bk
theorem Inv.fr (I : Inv X pins σ H s) : ∃ m, Fr X.base X.env.locals s.heap m :=
  let ⟨m, hn, _⟩ := I.loc
  ⟨m, hn, I.bk, Nat.le_trans I.ok.bsz I.ok.above⟩
theorem Inv.lt (I : Inv X pins σ H s) : X.env.locals < s.heap.objs.size := let ⟨_, hn, _⟩ := I.loc; hn.lt
theorem Inv.sz (I : Inv X pins σ H s) : X.s₀.heap.objs.size ≤ s.heap.objs.size := Nat.le_trans I.ok.above (Nat.le_of_lt I.lt)
theorem Inv.nofs (I : Inv X pins σ H s) {a : Addr} (h : s.heap.objs.size ≤ a) : a ∉ X.fs := fun hb => by
  obtain ⟨_, o, ho, _⟩ := I.ok.funs.mem hb
  exact absurd (Nat.lt_of_lt_of_le (Heap.lt_size ho) (Nat.le_trans I.sz h)) (Nat.lt_irrefl _)
theorem Inv.cne (I : Inv X pins σ H s) : ∀ x c, X.env.cells.lookup x = some c → c ≠ X.env.locals := fun x c e z => by
  obtain ⟨v, o, ho, hd⟩ := I.cell x c e
  obtain ⟨m, ⟨o', es, ep, ho', hd', _⟩, _⟩ := I.loc
  rw [z, ho'] at ho; cases ho; rw [hd'] at hd; cases hd
theorem Inv.funs (I : Inv X pins σ H s) : s.heap.FunFrames X.base X.outer := by
  have all : ∀ (l : List Env), (∀ b ∈ frs l, b ∈ X.fs) → X.s₀.heap.FunFrames X.base l → s.heap.FunFrames X.base l := by
    intro l
    induction l with
    | nil => intro _ _; trivial
    | cons env r ih =>
      intro hs hl
      obtain ⟨hk, ⟨L, o, hf, hn, ho, hd⟩, hr⟩ := hl
      have hL : L ∈ X.fs := hs L (by unfold frs; rw [List.filterMap_cons, hf]; exact List.mem_cons_self)
      obtain ⟨sl, e⟩ := I.base.slot L o ho (I.ok.frf L hL) hL fun z => I.ok.exfs L z hL
      exact ⟨hk, ⟨L, _, hf, hn, e, hd⟩, ih (fun b hb => hs b (by unfold frs; rw [List.filterMap_cons, hf]; exact List.mem_cons_of_mem _ hb)) hr⟩
  exact all X.outer (fun _ hb => hb) I.ok.funs

theorem Inv.stack (I : Inv X pins σ H s) : s.heap.FunFrames X.base X.stack := by
  rcases I.ok.stk with e | ⟨e, hf⟩
  · rw [e]; exact I.funs
  · rw [e]
    obtain ⟨m, hn, _⟩ := I.loc
    refine .cons (by rw [I.ok.kind]; decide) hf hn ?_ I.funs
    exact Heap.get?_none_of_le (Nat.le_trans I.ok.bsz I.ok.above)
theorem Inv.stkSub (I : Inv X pins σ H s) : ∀ b ∈ frs X.stack, b ∈ X.env.locals :: X.fs := fun b hb => by
  rcases I.ok.stk with e | ⟨e, hf⟩
  · rw [e] at hb; exact List.mem_cons_of_mem _ hb
  · rw [e] at hb
    unfold frs at hb
    rw [List.filterMap_cons, hf] at hb
    exact hb
theorem Inv.stkFree (I : Inv X pins σ H s) : ∀ b ∈ frs X.stack, H b = none := fun b hb => by
  rcases List.mem_cons.mp (I.stkSub b hb) with e | hb
  · rw [e]; exact I.free
  · obtain ⟨_, o, ho, _⟩ := I.ok.funs.mem hb
    exact I.base.free b o ho (I.ok.frf b hb) fun z => I.ok.exfs b z hb

theorem Inv.bigS (I : Inv X pins σ H s) : sysModules < s.heap.objs.size := by
  obtain ⟨o, _, _, e, _⟩ := I.ok.mod.glob
  exact Nat.lt_trans (by decide : (1 : Nat) < 3) (Heap.lt_size (I.bk _ _ e))
theorem Inv.sysN (I : Inv X pins σ H s) : H sysModules = none := I.base.sy I.ok.sy
theorem Inv.step {g' : Array GenState} {t' : Nat} {d' : Drawn} {ch : List Addr} (I : Inv X pins σ H s)
    (hch : ∀ b ∈ ch, (b ∈ X.ex ∨ X.s₀.heap.objs.size ≤ b) ∧ b ≠ X.env.locals ∧ (∀ x c, X.env.cells.lookup x = some c → c ≠ b) ∧ ∀ p ∈ X.pn ++ pins, p.1 ≠ b)
    (keep : ∀ b o, b ≠ X.env.locals → b ∉ X.fs → b ∉ ch → s.heap.get? b = some o → H b = none → h'.get? b = some o)
    (slot : ∀ b o, b ≠ X.env.locals → b ∈ X.fs → b ∉ ch → s.heap.get? b = some o → H b = none → ∃ sl, h'.get? b = some { o with slots := sl }) (free : ∀ b o, b ∉ ch → s.heap.get? b = some o → H b = none → H' b = none)
    (there : ∀ b o, b ∉ ch → s.heap.get? b = some o → ∃ o', h'.get? b = some o')
    (tups : ∀ b xs, H b = some (.tup xs) → H' b = some (.tup xs)) (frzs : ∀ b o u, H b = some (.frz o u) → H' b = some (.frz o u)) (tbls : ∀ b ps, H b = some (.tbl ps) → ∃ more, H' b = some (.tbl (ps ++ more)))
    (ns : ∀ m, s.heap.Ns X.env.locals m → h'.Ns X.env.locals m) (hok : HOk X.prog X.w H' h') (hg : AllBare g') (sy : H sysModules = none → H' sysModules = none) :
    Inv X pins σ H' { s with heap := h', gens := g', drawn := d', toks := t' } := by
  have neL : ∀ b o, X.s₀.heap.get? b = some o → b ≠ X.env.locals := fun b o e => Nat.ne_of_lt (Nat.lt_of_lt_of_le (Heap.lt_size e) I.ok.above)
  have neC : ∀ b o, X.s₀.heap.get? b = some o → b ∉ X.ex → b ∉ ch := fun b o e hx hb => by
    rcases (hch b hb).1 with z | z
    · exact hx z
    · exact absurd (Nat.lt_of_lt_of_le (Heap.lt_size e) z) (Nat.lt_irrefl _)
  have cellK : ∀ x c, X.env.cells.lookup x = some c → ∀ v, s.heap.IsCell c v → h'.IsCell c v := fun x c e v ⟨o, ho, hd⟩ => by
    have nch : c ∉ ch := fun z => (hch c z).2.2.1 x c e rfl
    by_cases hc : c ∈ X.fs
    · obtain ⟨sl, q⟩ := slot c o (I.cne x c e) hc nch ho (I.freeC x c e)
      exact ⟨_, q, hd⟩
    · exact ⟨o, keep c o (I.cne x c e) hc nch ho (I.freeC x c e), hd⟩
  refine ⟨I.ok, I.os, hg, ⟨fun b o e n hb hx => ?_, fun b o e n hb hx => ?_, fun b o e n hx => ?_, fun b o e hx => ?_, fun b xs e => tups b xs (I.base.tups b xs e), fun b o xs e => frzs b o xs (I.base.frzs b o xs e), fun b ps e => ?_, fun n => sy (I.base.sy n)⟩, ?_, fun x c e => ?_, ?_, fun x c e => ?_, fun p hp => ?_, hok, I.len⟩
  · exact keep b o (neL b o e) hb (neC b o e hx) (I.base.keep b o e n hb hx) (I.base.free b o e n hx)
  · obtain ⟨sl, e1⟩ := I.base.slot b o e n hb hx
    obtain ⟨sl', e2⟩ := slot b _ (neL b o e) hb (neC b o e hx) e1 (I.base.free b o e n hx)
    exact ⟨sl', e2⟩
  · obtain ⟨o', e1⟩ := I.base.there b o e hx
    exact free b o' (neC b o e hx) e1 (I.base.free b o e n hx)
  · obtain ⟨o', e1⟩ := I.base.there b o e hx
    exact there b o' (neC b o e hx) e1
  · obtain ⟨m1, e1⟩ := I.base.tbls b ps e
    obtain ⟨m2, e2⟩ := tbls b _ e1
    exact ⟨m1 ++ m2, by rw [e2, Array.append_assoc]⟩
  · obtain ⟨m, hn, hl⟩ := I.loc
    refine ⟨m, ns m hn, fun i x v e1 e2 e3 => ?_⟩
    obtain ⟨u, r, l⟩ := hl i x v e1 e2 e3
    refine ⟨u, r, ?_⟩
    rcases l with l | ⟨k, c, e, z⟩
    · exact .inl l
    · exact .inr ⟨k, c, e, cellK x c e _ z⟩
  · obtain ⟨v, z⟩ := I.cell x c e
    exact ⟨v, cellK x c e v z⟩
  · obtain ⟨m, ⟨o, _, _, ho, _⟩, _⟩ := I.loc
    exact free _ o (fun z => (hch _ z).2.1 rfl) ho I.free
  · obtain ⟨v, o, ho, hd⟩ := I.cell x c e
    exact free c o (fun z => (hch c z).2.2.1 x c e rfl) ho (I.freeC x c e)
  · obtain ⟨e, n, ne, nf, d⟩ := I.pin p hp
    have nch : p.1 ∉ ch := fun z => (hch p.1 z).2.2.2 p hp rfl
    exact ⟨keep p.1 p.2 ne nf nch e n, free p.1 p.2 nch e n, ne, nf, d⟩
theorem Inv.un {t' : Nat} (I : Inv X pins σ H s) (u : Un X.fs [] H H' s.heap h') (hok : HOk X.prog X.w H' h') : Inv X pins σ H' { s with heap := h', toks := t' } := by
  obtain ⟨m, ⟨o, es, ep, ho, r⟩, _⟩ := id I.loc
  obtain ⟨sl, hL⟩ := u.any ho I.free (by simp)
  exact I.step (g' := s.gens) (d' := s.drawn) (ch := []) (fun _ z => nomatch z) (fun b o _ hb _ e n => u.keep b o e n hb (by simp)) (fun b o _ hb _ e n => u.slot b o e n hb (by simp)) (fun b o _ e n => u.free b o e n (by simp)) (fun b o _ e => u.there b o e (by simp)) u.tups u.frzs u.tbls (fun m' hm => by
    obtain ⟨o', es', ep', ho', r'⟩ := hm
    rw [ho] at ho'; cases ho'
    exact ⟨_, es', ep', hL, r'⟩) hok I.bare u.sy
theorem Inv.call {g' : Array GenState} {t' : Nat} {d' : Drawn} {ch : List Addr} (I : Inv X pins σ H s) (u : Un (frs X.stack) ch H H' s.heap h') (hok : HOk X.prog X.w H' h') (hg : AllBare g')
    (hch : ∀ b ∈ ch, (b ∈ X.ex ∨ X.s₀.heap.objs.size ≤ b) ∧ b ≠ X.env.locals ∧ (∀ x c, X.env.cells.lookup x = some c → c ≠ b) ∧ ∀ p ∈ X.pn ++ pins, p.1 ≠ b) :
    Inv X pins σ H' { s with heap := h', gens := g', drawn := d', toks := t' } := by
  obtain ⟨m, ⟨o, es, ep, ho, r⟩, _⟩ := id I.loc
  obtain ⟨sl, hL⟩ := u.any ho I.free fun z => (hch _ z).2.1 rfl
  exact I.step (ch := ch) hch (fun b o hL hb hc e n => u.keep b o e n (fun z => (List.mem_cons.mp (I.stkSub b z)).elim hL hb) hc) (fun b o _ _ hc e n => u.any e n hc) (fun b o hc e n => u.free b o e n hc) (fun b o hc e => u.there b o e hc) u.tups u.frzs u.tbls (fun m' hm => by
    obtain ⟨o', es', ep', ho', r'⟩ := hm
    rw [ho] at ho'; cases ho'
    exact ⟨_, es', ep', hL, r'⟩) hok hg u.sy
theorem Inv.turned {t' : Nat} {it : Addr} (I : Inv X pins σ H s) (k : ∀ b o, b ≠ it → s.heap.get? b = some o → h'.get? b = some o) (hn : H it = none) (hL : it ≠ X.env.locals)
    (h1 : it ∈ X.ex ∨ X.s₀.heap.objs.size ≤ it) (h2 : ∀ x c, X.env.cells.lookup x = some c → c ≠ it) (h3 : ∀ p ∈ X.pn ++ pins, p.1 ≠ it) : Inv X pins σ H { s with heap := h', toks := t' } := by
  have nit : ∀ b u, H b = some u → b ≠ it := fun b u e z => by rw [z, hn] at e; cases e
  refine I.step (g' := s.gens) (d' := s.drawn) (ch := [it]) (fun b hb => ?_) (fun b o _ _ hc e _ => k b o (fun z => hc (by simp [z])) e) (fun b o _ _ hc e _ => ⟨o.slots, k b o (fun z => hc (by simp [z])) e⟩) (fun _ _ _ _ n => n)
    (fun b o hc e => ⟨o, k b o (fun z => hc (by simp [z])) e⟩) (fun _ _ e => e) (fun _ _ _ e => e) (fun b ps e => ⟨#[], by rw [e]; simp⟩) (fun m hm => ?_) (fun b u e => ?_) I.bare id
  · have e : b = it := by simpa using hb
    subst e
    exact ⟨h1, hL, h2, h3⟩
  · obtain ⟨o, es, ep, ho, r⟩ := hm
    exact ⟨o, es, ep, k _ o (Ne.symm hL) ho, r⟩
  · refine (I.hok b u e).stay (fun c v hc q => k c v ?_ q) (fun _ q => q) fun _ _ q => q
    rcases hc with z | z
    · rw [z]; exact nit b u e
    · exact nit c _ z
theorem Inv.tok (I : Inv X pins σ H s) (t : Nat) : Inv X pins σ H { s with toks := t } := I.un (h' := s.heap) (t' := t) Un.refl I.hok
theorem Inv.kept {t' : Nat} (I : Inv X pins σ H s) (k : ∀ b u, s.heap.get? b = some u → h'.get? b = some u) : Inv X pins σ H { s with heap := h', toks := t' } := I.un (Un.kept k) (I.hok.kept k)
theorem Inv.laid {a : Addr} {o : HO} {t' : Nat} (I : Inv X pins σ H s) (k : ∀ b u, s.heap.get? b = some u → h'.get? b = some u) (hp : s.heap.objs.size ≤ a) (new : ObjOk X.prog X.w (upd H a o) h' a o) :
    Inv X pins σ (upd H a o) { s with heap := h', toks := t' } := I.un (Un.laid k hp (I.hok.fresh hp) (Nat.ne_of_lt (Nat.lt_of_lt_of_le I.bigS hp))) (I.hok.laid k hp new)
theorem Inv.write {x e : Addr} {o : HO} {t' : Nat} (I : Inv X pins σ H s) (mu : Mut (H x)) (he : e = x ∨ H e = some (.own x)) (k : ∀ b u, b ≠ e → s.heap.get? b = some u → h'.get? b = some u) (heo : ∃ u, h'.get? e = some u)
    (new : ObjOk X.prog X.w (upd H x o) h' x o) : Inv X pins σ (upd H x o) { s with heap := h', toks := t' } := I.un (Un.write mu he k heo) (I.hok.write mu he k heo new)
theorem Inv.weak {σ' : List (Option V)} (I : Inv X pins σ H s) (hl : σ'.length = σ.length) (w : ∀ (i : Nat) v, σ'[i]? = some (some v) → σ[i]? = some (some v)) : Inv X pins σ' H s :=
  ⟨I.ok, I.os, I.bare, I.base, let ⟨m, hn, hl'⟩ := I.loc; ⟨m, hn, fun i x v e1 e2 e3 => hl' i x v e1 (w i v e2) e3⟩, I.cell, I.free, I.freeC, I.pin, I.hok, hl.trans I.len⟩
theorem Inv.pins_of {pins' : List (Addr × Obj)} (I : Inv X pins σ H s) (h : ∀ p ∈ pins', s.heap.get? p.1 = some p.2 ∧ H p.1 = none ∧ p.1 ≠ X.env.locals ∧ p.1 ∉ X.fs ∧ ∀ v, p.2.data ≠ .cell v) : Inv X pins' σ H s :=
  ⟨I.ok, I.os, I.bare, I.base, I.loc, I.cell, I.free, I.freeC, fun p hp => (List.mem_append.mp hp).elim (fun z => I.pin p (List.mem_append_left _ z)) (h p), I.hok, I.len⟩

theorem nodup_ix {N : List Str} (hN : N.Nodup) {i j : Nat} {x : Str} (a : N[i]? = some x) (b : N[j]? = some x) : i = j := by
  obtain ⟨h1, e1⟩ := List.getElem?_eq_some_iff.mp a
  obtain ⟨h2, e2⟩ := List.getElem?_eq_some_iff.mp b
  exact (List.getElem_inj hN).mp (e1.trans e2.symm)

theorem store_ok2 {M : Model} {A : Around} {E : Value → Shared → Prop} {i : Nat} {x : Str} {v : V} {u : Value} {Q : Unit → Shared → Prop} (I : Inv X pins σ H s) (hN : X.N.Nodup) (hi : X.N[i]? = some x) (hx : Loc X.env.scope x) (r : RelV v u)
    (h : ∀ s', Inv X pins (σ.set i (some v)) H s' → (∃ a, Heap.SameBut a s.heap s'.heap ∧ (a = X.env.locals ∨ X.env.cells.lookup x = some a)) → Q () s') (hf : X.fn x = true ∨ X.env.scope.names.lookup x = some .local := by first | exact .inl rfl | exact .inr rfl | assumption) : wpAny M A (storeName X.env x u) Q E s := by
  obtain ⟨m, hn, hl⟩ := id I.loc
  have hcls : (X.env.scope.kind == .class || (X.env.scope.kind == .module && X.env.locals != X.env.globals)) = false := by rw [I.ok.kind]; rfl
  have hiσ : i < σ.length := by rw [I.len]; exact (List.getElem?_eq_some_iff.mp hi).1
  have cne := I.cne
  have tracked : ∀ {a : Addr} {h' : Heap}, (∃ o, s.heap.get? a = some o ∧ H a = none) → Heap.SameBut a s.heap h' → HOk X.prog X.w H h' := fun {a h'} ha hs b ob e => by
    obtain ⟨_, _, hfree⟩ := ha
    refine (I.hok b ob e).stay (fun c w' hc q => (hs.2 c ?_).trans q) (fun _ q => q) fun _ _ q => q
    rintro rfl
    rcases hc with rfl | hc
    · rw [hfree] at e; cases e
    · rw [hfree] at hc; cases hc
  rcases hx with hk | hk
  · refine wpAny_storeName_local hk hn (fun h' hn' hs => ?_) hcls
    obtain ⟨oL, _, _, hoL, _⟩ := id hn
    refine h _ ⟨I.ok, I.os, I.bare, ⟨fun b o e n hb hx => ?_, fun b o e n hb hx => ?_, I.base.free, fun b o e hx => ?_, I.base.tups, I.base.frzs, I.base.tbls, I.base.sy⟩, ⟨_, hn', fun j y v' e1 e2 e3 => ?_⟩, fun y c e => ?_, I.free, I.freeC, fun p hp => ?_, tracked ⟨oL, hoL, I.free⟩ hs, by simpa using I.len⟩ ⟨_, hs, .inl rfl⟩
    · exact (hs.2 b (Nat.ne_of_lt (Nat.lt_of_lt_of_le (Heap.lt_size e) I.ok.above))).trans (I.base.keep b o e n hb hx)
    · obtain ⟨sl, e1⟩ := I.base.slot b o e n hb hx
      exact ⟨sl, (hs.2 b (Nat.ne_of_lt (Nat.lt_of_lt_of_le (Heap.lt_size e) I.ok.above))).trans e1⟩
    · obtain ⟨o', e1⟩ := I.base.there b o e hx
      exact ⟨o', (hs.2 b (Nat.ne_of_lt (Nat.lt_of_lt_of_le (Heap.lt_size e) I.ok.above))).trans e1⟩
    · by_cases hj : j = i
      · subst hj
        rw [hi] at e1; cases e1
        rw [List.getElem?_set_self hiσ] at e2
        cases e2
        exact ⟨u, r, .inl ⟨hk, by simp⟩⟩
      · rw [List.getElem?_set_ne (Ne.symm hj)] at e2
        obtain ⟨u', r', q⟩ := hl j y v' e1 e2 e3
        refine ⟨u', r', ?_⟩
        rcases q with ⟨k, e⟩ | ⟨k, c, e, z⟩
        · refine .inl ⟨k, ?_⟩
          have : y ≠ x := fun e => hj (nodup_ix hN e1 (e ▸ hi))
          simp [this, e]
        · exact .inr ⟨k, c, e, z.sameBut hs (cne y c e)⟩
    · obtain ⟨w', z⟩ := I.cell y c e
      exact ⟨w', z.sameBut hs (cne y c e)⟩
    · obtain ⟨e, n, ne, nf, d⟩ := I.pin p hp
      exact ⟨(hs.2 p.1 ne).trans e, n, ne, nf, d⟩
  · have hfn : X.fn x = true := by
      rcases hf with z | z
      · exact z
      · rw [z] at hk; cases hk
    obtain ⟨c, hc⟩ := I.ok.has x (.inl hk)
    obtain ⟨w', z⟩ := I.cell x c hc
    refine wpAny_storeName_cell I.ok.kind hk hc z (fun h' hc' hs => ?_)
    obtain ⟨oc, hoc, hocd⟩ := id z
    refine h { s with heap := h' } ⟨I.ok, I.os, I.bare, ⟨fun b o e n hb hx => ?_, fun b o e n hb hx => ?_, I.base.free, fun b o e hx => ?_, I.base.tups, I.base.frzs, I.base.tbls, I.base.sy⟩, ⟨m, hn.sameBut hs (Ne.symm (cne x c hc)), fun j y v' e1 e2 e3 => ?_⟩, fun y c' e => ?_, I.free, I.freeC, fun p hp => ?_, tracked ⟨oc, hoc, I.freeC x c hc⟩ hs, by simpa using I.len⟩ ⟨c, hs, .inr hc⟩
    · exact (hs.2 b (Nat.ne_of_lt (Nat.lt_of_lt_of_le (Heap.lt_size e) (I.ok.cab x c hfn hc)))).trans (I.base.keep b o e n hb hx)
    · obtain ⟨sl, e1⟩ := I.base.slot b o e n hb hx
      exact ⟨sl, (hs.2 b (Nat.ne_of_lt (Nat.lt_of_lt_of_le (Heap.lt_size e) (I.ok.cab x c hfn hc)))).trans e1⟩
    · obtain ⟨o', e1⟩ := I.base.there b o e hx
      exact ⟨o', (hs.2 b (Nat.ne_of_lt (Nat.lt_of_lt_of_le (Heap.lt_size e) (I.ok.cab x c hfn hc)))).trans e1⟩
    · by_cases hj : j = i
      · subst hj
        rw [hi] at e1; cases e1
        rw [List.getElem?_set_self hiσ] at e2
        cases e2
        exact ⟨u, r, .inr ⟨.inl hk, c, hc, hc'⟩⟩
      · rw [List.getElem?_set_ne (Ne.symm hj)] at e2
        obtain ⟨u', r', q⟩ := hl j y v' e1 e2 e3
        refine ⟨u', r', ?_⟩
        rcases q with q | ⟨k, c', e, z'⟩
        · exact .inl q
        · refine .inr ⟨k, c', e, z'.sameBut hs ?_⟩
          rintro rfl
          exact hj (nodup_ix hN e1 (I.ok.inj _ _ _ e hc ▸ hi))
    · by_cases hcc : c' = c
      · subst hcc; exact ⟨_, hc'⟩
      · obtain ⟨w2, z2⟩ := I.cell y c' e
        exact ⟨w2, z2.sameBut hs hcc⟩
    · obtain ⟨e, n, ne, nf, d⟩ := I.pin p hp
      refine ⟨(hs.2 p.1 ?_).trans e, n, ne, nf, d⟩
      intro q
      rw [q, hoc] at e
      have q' : oc = p.2 := Option.some.inj e
      exact d w' (by rw [← q']; exact hocd)
theorem store_ok {M : Model} {A : Around} {E : Value → Shared → Prop} {i : Nat} {x : Str} {v : V} {u : Value} {Q : Unit → Shared → Prop} (I : Inv X pins σ H s) (hN : X.N.Nodup) (hi : X.N[i]? = some x) (hx : Loc X.env.scope x) (r : RelV v u)
    (h : ∀ s', Inv X pins (σ.set i (some v)) H s' → Q () s') (hf : X.fn x = true ∨ X.env.scope.names.lookup x = some .local := by first | exact .inl rfl | exact .inr rfl | assumption) : wpAny M A (storeName X.env x u) Q E s :=
  store_ok2 I hN hi hx r (fun s' I' _ => h s' I') hf
theorem Inv.call' {s' : Shared} {ch : List Addr} (I : Inv X pins σ H s) (ho : s'.os = s.os) (u : Un (frs X.stack) ch H H' s.heap s'.heap) (hok : HOk X.prog X.w H' s'.heap) (hg : AllBare s'.gens)
    (hch : ∀ b ∈ ch, (b ∈ X.ex ∨ X.s₀.heap.objs.size ≤ b) ∧ b ≠ X.env.locals ∧ (∀ x c, X.env.cells.lookup x = some c → c ≠ b) ∧ ∀ p ∈ X.pn ++ pins, p.1 ≠ b) : Inv X pins σ H' s' := by
  obtain ⟨h', g', d', t', o'⟩ := s'
  have e : o' = s.os := ho
  subst e
  exact I.call (g' := g') (t' := t') (d' := d') u hok hg hch
end

abbrev XK := Value → Option Addr → Hp → Prop
abbrev St := List (Option V)
abbrev VK := V → Hp → Prop
abbrev TE := St → Hp → VK → Prop
abbrev TT := St → Hp → (Bool → Hp → Prop) → Prop
abbrev TA := St → Hp → (List V → Hp → Prop) → Prop

structure Ends where
  nx : St → Hp → Prop
  rt : VK
  bk : St → Hp → Prop := fun _ _ => False
  ct : St → Hp → Prop := fun _ _ => False
abbrev TS := Ends → St → Hp → Prop

def EP (X : Cx) (pins : List (Addr × Obj)) (σ : St) (Q : VK) (u : Value) (s' : Shared) : Prop := ∃ v H', Inv X pins σ H' s' ∧ RelV v u ∧ Q v H'
def TP (X : Cx) (pins : List (Addr × Obj)) (σ : St) (Q : Bool → Hp → Prop) (b : Bool) (s' : Shared) : Prop := ∃ H', Inv X pins σ H' s' ∧ Q b H'
def AP (X : Cx) (pins : List (Addr × Obj)) (σ : St) (Q : List V → Hp → Prop) (us : List Value) (s' : Shared) : Prop := ∃ vs H', Inv X pins σ H' s' ∧ Vals vs us ∧ Q vs H'
def SP (X : Cx) (pins : List (Addr × Obj)) (D : Ends) (f : Flow) (s' : Shared) : Prop :=
  match f with
  | .next => ∃ σ' H', Inv X pins σ' H' s' ∧ D.nx σ' H'
  | .brk => ∃ σ' H', Inv X pins σ' H' s' ∧ D.bk σ' H'
  | .cont => ∃ σ' H', Inv X pins σ' H' s' ∧ D.ct σ' H'
  | .ret u => ∃ v σ' H', Inv X pins σ' H' s' ∧ RelV v u ∧ D.rt v H'

def PE (X : Cx) (e : Expr) (t : TE) : Prop :=
  ∀ (pins : List (Addr × Obj)) (s : Shared) (σ : St) (H : Hp) (Q : VK), Inv X pins σ H s → t σ H Q → wpAny (model X.prog X.w) X.A (eval e X.env) (EP X pins σ Q) X.xe s
def PT (X : Cx) (e : Expr) (t : TT) : Prop :=
  ∀ (pins : List (Addr × Obj)) (s : Shared) (σ : St) (H : Hp) (Q : Bool → Hp → Prop), Inv X pins σ H s → t σ H Q → wpAny (model X.prog X.w) X.A (isTrue e X.env (eval e X.env)) (TP X pins σ Q) X.xe s
def PW (X : Cx) (e : Expr) (t : TT) : Prop :=
  ∀ (whole : Sem Value) (pins : List (Addr × Obj)) (s : Shared) (σ : St) (H : Hp) (Q : Bool → Hp → Prop), Inv X pins σ H s → t σ H Q → wpAny (model X.prog X.w) X.A (isTrue e X.env whole) (TP X pins σ Q) X.xe s
theorem PW.pt {X : Cx} {e : Expr} {t : TT} (h : PW X e t) : PT X e t := h _
def PA (X : Cx) (es : List Expr) (t : TA) : Prop :=
  ∀ (pos : Pos) (pins : List (Addr × Obj)) (s : Shared) (σ : St) (H : Hp) (Q : List V → Hp → Prop), Inv X pins σ H s → t σ H Q → wpAny (model X.prog X.w) X.A (spliced (backTo pos (starEach es X.env))) (AP X pins σ Q) X.xe s
def PS (X : Cx) (st : Stmt) (t : TS) : Prop :=
  ∀ (pins : List (Addr × Obj)) (s : Shared) (σ : St) (H : Hp) (D : Ends), Inv X pins σ H s → t D σ H → wpAny (model X.prog X.w) X.A (exec st X.env) (SP X pins D) X.xe s
def PSs (X : Cx) (st : List Stmt) (t : TS) : Prop :=
  ∀ (pins : List (Addr × Obj)) (s : Shared) (σ : St) (H : Hp) (D : Ends), Inv X pins σ H s → t D σ H → wpAny (model X.prog X.w) X.A (execs st X.env) (SP X pins D) X.xe s
theorem thn {α : Type} {t : Sem α} {Q Q' : α → Shared → Prop} {M : Model} {A : Around} {E : Value → Shared → Prop} {s : Shared} (h : wpAny M A t Q E s) (hQ : ∀ a s, Q a s → Q' a s) : wpAny M A t Q' E s := wpAny_mono h hQ fun _ _ x => x
end L2

namespace L2
open PySem PySem.Spec PyProof.Rows
section
variable {X : Cx}

theorem bin {a b : Expr} {ta tb : TE} (ha : PE X a ta) (hb : PE X b tb) {pins : List (Addr × Obj)} {s : Shared} {σ : St} {H : Hp} {R : V → V → Hp → Prop} (I : Inv X pins σ H s) (h : ta σ H fun x H1 => tb σ H1 fun y H2 => R x y H2)
    {α : Type} {Q : α → Shared → Prop} {f : Value → Value → Sem α}
    (hf : ∀ v u s2 x y H2, Inv X pins σ H2 s2 → RelV x v → RelV y u → R x y H2 → wpAny (model X.prog X.w) X.A (f v u) Q X.xe s2) :
    wpAny (model X.prog X.w) X.A (eval a X.env) (fun v s₁ => wpAny (model X.prog X.w) X.A (eval b X.env) (fun u s₂ => wpAny (model X.prog X.w) X.A (f v u) Q X.xe s₂) X.xe s₁) X.xe s := by
  refine thn (ha pins s σ H _ I h) fun v s1 ⟨x, H1, I1, r1, q1⟩ => ?_
  refine thn (hb pins s1 σ H1 _ I1 q1) fun u s2 ⟨y, H2, I2, r2, q2⟩ => ?_
  exact hf v u s2 x y H2 I2 r1 r2 q2

def tVar (i : Nat) : TE := fun σ H Q => ∃ v, σ[i]? = some (some v) ∧ Q v H
def tC (v : V) : TE := fun _ H Q => Q v H
theorem pe_var {i : Nat} {x : Str} {pos : Pos} (hN : X.N[i]? = some x) (hv : Vis X.env.scope x) (hd : (x == ("__debug__" : Str)) = false := by decide) (hcd : (x == ("__classdict__" : Str)) = false := by decide) : PE X (.Name x pos) (tVar i) := by
  intro pins s σ H Q I h
  obtain ⟨v, e, h⟩ := h
  obtain ⟨m, hn, hl⟩ := I.loc
  obtain ⟨u, r, l⟩ := hl i x v hN e hv
  have fin : EP X pins σ Q u s := ⟨v, H, I, r, h⟩
  rcases l with ⟨hk, hm⟩ | ⟨hk, c, hc, hcell⟩
  · exact wpAny_Name (wpAny_loadName_local I.ok.kind hk hn hm fin) hd
  · rcases hk with hk | hk
    · exact wpAny_Name (wpAny_loadName_cell I.ok.kind hk hc hcell fin) hd
    · exact wpAny_Name (wpAny_loadName_free I.ok.kind hk hc hcell fin hcd) hd
theorem pe_int {i j pos} : PE X (.Constant (.int i) j pos) (tC (.int i)) := fun _ _ _ H _ I h => wpAny_Constant_int ⟨.int i, H, I.tok _, ⟨_, rfl⟩, h⟩
theorem pe_bl {b j pos} : PE X (.Constant (.bool b) j pos) (tC (.bl b)) := fun _ _ _ H _ I h => Constant_bool ⟨.bl b, H, I, rfl, h⟩
theorem pe_non {j pos} : PE X (.Constant .none j pos) (tC .non) := fun _ _ _ H _ I h => Constant_none ⟨.non, H, I, rfl, h⟩
def Gl (X : Cx) (x : Str) : Prop := X.env.kindOf x = some .globalImplicit
theorem ld_glob {E : Value → Shared → Prop} {pins : List (Addr × Obj)} {s : Shared} {σ : St} {H : Hp} {x : Str} {u : Value} {pos : Pos} {Q : Value → Shared → Prop} (I : Inv X pins σ H s) (hg : Gl X x) (hm : X.mg x = some u) (h : Q u s)
    (hd : (x == ("__debug__" : Str)) = false := by decide) : wpAny (model X.prog X.w) X.A (eval (.Name x pos) X.env) Q E s :=
  Calls.Name_function_global I.ok.kind hg (Calls.loadGlobal_global (by rw [I.ok.glob]; exact I.mod.glob.keeps I.bk) hm h) hd
theorem ld_blt {E : Value → Shared → Prop} {pins : List (Addr × Obj)} {s : Shared} {σ : St} {H : Hp} {x : Str} {u : Value} {pos : Pos} {Q : Value → Shared → Prop} (I : Inv X pins σ H s) (hg : Gl X x) (hm : X.mg x = none) (hv : bootBuiltins x = some u) (h : Q u s)
    (hn : x ≠ "__name__" := by decide) (hd : (x == ("__debug__" : Str)) = false := by decide) : wpAny (model X.prog X.w) X.A (eval (.Name x pos) X.env) Q E s := by
  obtain ⟨mb, h1, h2⟩ := I.mod.blt
  exact Calls.Name_function_global I.ok.kind hg (Calls.loadGlobal_builtin (by rw [I.ok.glob]; exact I.mod.glob.keeps I.bk) hm (by rw [I.ok.blt]; exact h1.keeps I.bk) ((h2 x hn).trans hv) h) hd
theorem pe_glob {x : Str} {v : V} {u : Value} {pos : Pos} (hg : Gl X x) (hm : X.mg x = some u) (r : RelV v u) (hd : (x == ("__debug__" : Str)) = false := by decide) : PE X (.Name x pos) (tC v) :=
  fun _ _ _ H _ I h => ld_glob I hg hm ⟨v, H, I, r, h⟩ hd
theorem pe_bltn {x : Str} {v : V} {u : Value} {pos : Pos} (hg : Gl X x) (hm : X.mg x = none) (hv : bootBuiltins x = some u) (r : RelV v u) (hn : x ≠ "__name__" := by decide) (hd : (x == ("__debug__" : Str)) = false := by decide) : PE X (.Name x pos) (tC v) :=
  fun _ _ _ H _ I h => ld_blt I hg hm hv ⟨v, H, I, r, h⟩ hn hd

variable {a b : Expr} {ta tb : TE} {pos : Pos}
def PC (X : Cx) (op : CmpOp) (a b : Expr) (t : TE) : Prop :=
  ∀ (pins : List (Addr × Obj)) (s : Shared) (σ : St) (H : Hp) (Q : VK), Inv X pins σ H s → t σ H Q →
    wpAny (model X.prog X.w) X.A (eval a X.env) (fun v s₁ => wpAny (model X.prog X.w) X.A (eval b X.env) (fun u s₂ => wpAny (model X.prog X.w) X.A (compareOp op v u) (EP X pins σ Q) X.xe s₂) X.xe s₁) X.xe s
theorem nobehind (b : Expr) {op : CmpOp} (h : op ≠ .In) (h2 : op ≠ .NotIn) : behindInMarks op b = false := by
  have e1 : (op == CmpOp.In) = false := by cases op <;> first | rfl | exact absurd rfl h
  have e2 : (op == CmpOp.NotIn) = false := by cases op <;> first | rfl | exact absurd rfl h2
  cases b <;> simp [behindInMarks, e1, e2]
def tB (t : TE) : TT := fun σ H Q => t σ H fun x H1 => ∃ c, x = .bl c ∧ Q c H1
theorem pt_cmp {op : CmpOp} {t : TE} (h : PC X op a b t) (h1 : behindInMarks op b = false := by first | exact nobehind _ (by decide) (by decide) | rfl) : PT X (.Compare a [op] [b] pos) (tB t) := by
  intro pins s σ H Q I hw
  refine wpAny_isTrue_Compare1 (thn (h pins s σ H _ I hw) fun v s1 h1 => thn h1 fun u s2 h2 => thn h2 fun c s3 ⟨x, H1, I1, r1, q1⟩ => ?_) h1
  obtain ⟨d, rfl, q⟩ := q1
  cases r1
  exact wpAny_truthy_bool ⟨H1, I1, q⟩
theorem pt_val {e : Expr} {t : TE} (h : PE X e t) (he : ∀ whole, isTrue e X.env whole = (do let v ← whole; standAt e.pos; holding [v] (truthy v)) := by intro _; rfl) : PT X e (tB t) := by
  intro pins s σ H Q I hw
  refine isTrue_plain (thn (h pins s σ H _ I hw) fun v s1 ⟨x, H1, I1, r1, q1⟩ => ?_) (he _)
  obtain ⟨d, rfl, q⟩ := q1
  cases r1
  exact wpAny_truthy_bool ⟨H1, I1, q⟩

variable {tA tB' : TT} {rest : List Expr}
def tAnd (t u : TT) : TT := fun σ H Q => t σ H fun c H1 => if c = true then u σ H1 Q else Q false H1
def tOr (t u : TT) : TT := fun σ H Q => t σ H fun c H1 => if c = true then Q true H1 else u σ H1 Q
def tNot (t : TT) : TT := fun σ H Q => t σ H fun c H1 => Q (!c) H1
theorem pw_and1 (ha : PT X a tA) : PW X (.BoolOp .And [a] pos) tA := by
  intro wh pins s σ H Q I h
  refine isTrue_and (thn (ha pins s σ H Q I h) fun c s1 e => ?_)
  cases c with
  | true => exact isTrue_and_nil e
  | false => exact e
theorem pw_or1 (ha : PT X a tA) : PW X (.BoolOp .Or [a] pos) tA := by
  intro wh pins s σ H Q I h
  refine isTrue_or (thn (ha pins s σ H Q I h) fun c s1 e => ?_)
  cases c with
  | false => exact isTrue_or_nil e
  | true => exact e
theorem pw_and (ha : PT X a tA) (hb : PW X (.BoolOp .And (b :: rest) pos) tB') : PW X (.BoolOp .And (a :: b :: rest) pos) (tAnd tA tB') := by
  intro wh pins s σ H Q I h
  refine isTrue_and (thn (ha pins s σ H _ I h) fun c s1 ⟨H1, I1, q1⟩ => ?_)
  cases c with
  | true => exact hb wh pins s1 σ H1 Q I1 q1
  | false => exact ⟨H1, I1, q1⟩
theorem pw_or (ha : PT X a tA) (hb : PW X (.BoolOp .Or (b :: rest) pos) tB') : PW X (.BoolOp .Or (a :: b :: rest) pos) (tOr tA tB') := by
  intro wh pins s σ H Q I h
  refine isTrue_or (thn (ha pins s σ H _ I h) fun c s1 ⟨H1, I1, q1⟩ => ?_)
  cases c with
  | true => exact ⟨H1, I1, q1⟩
  | false => exact hb wh pins s1 σ H1 Q I1 q1
theorem pt_not (ha : PT X a tA) : PT X (.UnaryOp .Not a pos) (tNot tA) := by
  intro pins s σ H Q I h
  exact isTrue_not (ha pins s σ H (fun c H1 => Q (!c) H1) I h)
def tAndV (ta tb : TE) : TE := fun σ H Q => ta σ H fun x H1 => ∃ c, x = .bl c ∧ if c = true then tb σ H1 Q else Q (.bl false) H1
def tNotV (ta : TE) : TE := fun σ H Q => ta σ H fun x H1 => ∃ c, x = .bl c ∧ Q (.bl (!c)) H1
theorem pe_one {op} {t : TE} (h : PE X a t) : PE X (.BoolOp op [a] pos) t := fun pins s σ H Q I hw => BoolOp_one (h pins s σ H Q I hw)
theorem pe_and (ha : PE X a ta) (hb : PE X (.BoolOp .And (b :: rest) pos) tb) : PE X (.BoolOp .And (a :: b :: rest) pos) (tAndV ta tb) := by
  intro pins s σ H Q I h
  refine BoolOp_and (thn (ha pins s σ H _ I h) fun v s1 ⟨x, H1, I1, r1, q1⟩ => ?_)
  obtain ⟨c, rfl, q1⟩ := q1
  cases r1
  refine wpAny_truthy_bool ?_
  cases c with
  | true => exact hb pins s1 σ H1 Q I1 q1
  | false => exact ⟨.bl false, H1, I1, rfl, q1⟩
theorem pe_not (ha : PE X a ta) : PE X (.UnaryOp .Not a pos) (tNotV ta) := by
  intro pins s σ H Q I h
  refine UnaryOp_ (thn (ha pins s σ H _ I h) fun v s1 ⟨x, H1, I1, r1, q1⟩ => ?_)
  obtain ⟨c, rfl, q1⟩ := q1
  cases r1
  exact not_of (wpAny_truthy_bool ⟨.bl (!c), H1, I1, rfl, q1⟩)
end
end L2

namespace L2
open PySem PySem.Spec PyProof.Rows

def SqL (K : PySem.W.Frag) (H : Hp) (a : Addr) (xs : List V) : Prop :=
  Rd H a (.lst xs) ∨
    ∃ (o : Obj) (its : Array Value) (n : Nat), K.lookup a = some o ∧ o.cls = .type "list" ∧ o.dict = none ∧ o.data = .seq its n ∧ its.size ≤ sizeLine ∧ Vals xs its.toList
def SqT (K : PySem.W.Frag) (H : Hp) (a : Addr) (xs : List V) : Prop :=
  Rd H a (.tup xs) ∨
    ∃ (o : Obj) (its : Array Value) (n : Nat), K.lookup a = some o ∧ o.cls = .type "tuple" ∧ o.data = .seq its n ∧ its.size ≤ sizeLine ∧ Vals xs its.toList
def absV : Value → Option V
  | .none => some .non
  | .bool b => some (.bl b)
  | .int i _ => some (.int i)
  | .str x _ => some (.str x)
  | .bytes b _ => some (.byt b)
  | .float b _ => some (.flt b)
  | .ref a => some (.ref a)
  | .type n => some (.ty n)
  | _ => none
theorem RelV.abs {x : V} {u : Value} (r : RelV x u) : absV u = some x := by
  cases x with
  | non => cases r; rfl
  | bl _ => cases r; rfl
  | int _ => obtain ⟨t, rfl⟩ := r; rfl
  | str _ => obtain ⟨t, rfl⟩ := r; rfl
  | byt _ => obtain ⟨t, rfl⟩ := r; rfl
  | flt _ => obtain ⟨t, rfl⟩ := r; rfl
  | ref _ => cases r; rfl
  | ty _ => cases r; rfl
theorem RelV.inj {x y : V} {u : Value} (r : RelV x u) (q : RelV y u) : x = y := Option.some.inj (r.abs.symm.trans q.abs)
theorem Vals.inj : ∀ {xs ys : List V} {us : List Value}, Vals xs us → Vals ys us → xs = ys
  | _, _, _, .nil, .nil => rfl
  | _, _, _, .cons r t, .cons r' t' => by rw [r.inj r', Vals.inj t t']
section
variable {X : Cx} {pins : List (Addr × Obj)} {σ : St} {H : Hp} {s : Shared} {a : Addr} {xs ys : List V}
theorem SqL.of {K : PySem.W.Frag} (h : H a = some (.lst xs)) : SqL K H a xs := .inl (.inl h)
theorem SqT.of {K : PySem.W.Frag} (h : H a = some (.tup xs)) : SqT K H a xs := .inl (.inl h)
theorem Inv.list (I : Inv X pins σ H s) (h : SqL X.K H a xs) : ∃ its : List Value, Vals xs its ∧ PlainL s.heap a its.toArray ∧ xs.length ≤ sizeLine := by
  rcases h with h | ⟨o, its, n, hk, hc, hd, hs, hz, r⟩
  · obtain ⟨z, its, n, r, e⟩ := h.ok I.hok
    exact ⟨its, r, ⟨_, n, e, rfl, rfl, rfl⟩, z⟩
  · refine ⟨its.toList, r, ⟨o, n, I.kIn a o hk, hc, hd, by simpa using hs⟩, ?_⟩
    have e := r.length
    simp only [Array.length_toList] at e
    omega
theorem Inv.tuple (I : Inv X pins σ H s) (h : SqT X.K H a xs) : ∃ its : List Value, Vals xs its ∧ IsTup s.heap a its.toArray ∧ xs.length ≤ sizeLine := by
  rcases h with h | ⟨o, its, n, hk, hc, hs, hz, r⟩
  · obtain ⟨z, its, r, p⟩ := h.ok I.hok
    exact ⟨its, r, p, z⟩
  · refine ⟨its.toList, r, ⟨o, I.kIn a o hk, hc, n, by simpa using hs⟩, ?_⟩
    have e := r.length
    simp only [Array.length_toList] at e
    omega
theorem Inv.list_inj (I : Inv X pins σ H s) (h : SqL X.K H a xs) (h' : SqL X.K H a ys) : xs = ys := by
  obtain ⟨its, r, ⟨o, n, e, _, _, d⟩, _⟩ := I.list h
  obtain ⟨its', r', ⟨o', n', e', _, _, d'⟩, _⟩ := I.list h'
  rw [e] at e'; cases e'
  rw [d] at d'
  injection d' with d1 _
  have : its = its' := by simpa using congrArg Array.toList d1
  subst this
  exact r.inj r'
theorem Inv.tuple_inj (I : Inv X pins σ H s) (h : SqT X.K H a xs) (h' : SqT X.K H a ys) : xs = ys := by
  obtain ⟨its, r, ⟨o, e, _, n, d⟩, _⟩ := I.tuple h
  obtain ⟨its', r', ⟨o', e', _, n', d'⟩, _⟩ := I.tuple h'
  rw [e] at e'; cases e'
  rw [d] at d'
  injection d' with d1 _
  have : its = its' := by simpa using congrArg Array.toList d1
  subst this
  exact r.inj r'
end

abbrev Cx.wish (X : Cx) (E : Value → Shared → Prop) : Cx := { X with xe := E }
abbrev Cx.nox (X : Cx) : Cx := X.wish fun _ _ => False
theorem Cx.Ok.wish {X : Cx} (ok : X.Ok) (E : Value → Shared → Prop) : (X.wish E).Ok :=
  ⟨ok.mod, ok.kind, ok.glob, ok.blt, ok.above, ok.inj, ok.has, ok.cab, ok.hd, ok.frames, ok.stk, ok.exf, ok.bs, ok.bsz, ok.noex, ok.exfs, ok.funs, ok.frf, ok.sy⟩
theorem Cx.Ok.unwish {X : Cx} {E : Value → Shared → Prop} (ok : (X.wish E).Ok) : X.Ok :=
  ⟨ok.mod, ok.kind, ok.glob, ok.blt, ok.above, ok.inj, ok.has, ok.cab, ok.hd, ok.frames, ok.stk, ok.exf, ok.bs, ok.bsz, ok.noex, ok.exfs, ok.funs, ok.frf, ok.sy⟩
section
variable {X : Cx} {pins : List (Addr × Obj)} {σ : St} {H : Hp} {s : Shared} {E : Value → Shared → Prop}
theorem Inv.wish (I : Inv X pins σ H s) (E : Value → Shared → Prop) : Inv (X.wish E) pins σ H s := ⟨I.ok.wish E, I.os, I.bare, I.base, I.loc, I.cell, I.free, I.freeC, I.pin, I.hok, I.len⟩
theorem Inv.unwish (I : Inv (X.wish E) pins σ H s) : Inv X pins σ H s := ⟨I.ok.unwish, I.os, I.bare, I.base, I.loc, I.cell, I.free, I.freeC, I.pin, I.hok, I.len⟩
theorem SP.unwish {D : Ends} {f : Flow} {s' : Shared} (h : SP (X.wish E) pins D f s') : SP X pins D f s' := by
  cases f with
  | next => obtain ⟨σ', H', I, q⟩ := h; exact ⟨σ', H', I.unwish, q⟩
  | brk => obtain ⟨σ', H', I, q⟩ := h; exact ⟨σ', H', I.unwish, q⟩
  | cont => obtain ⟨σ', H', I, q⟩ := h; exact ⟨σ', H', I.unwish, q⟩
  | ret u => obtain ⟨v, σ', H', I, r, q⟩ := h; exact ⟨v, σ', H', I.unwish, r, q⟩
theorem PE.nox {e : Expr} {t : TE} (h : PE X.nox e t) : PE X e t := fun pins s σ H Q I hw =>
  wpAny_mono (h pins s σ H Q (I.wish _) hw) (fun _ _ ⟨v, H', I', r, q⟩ => ⟨v, H', I'.unwish, r, q⟩) fun _ _ z => False.elim z
theorem PT.nox {e : Expr} {t : TT} (h : PT X.nox e t) : PT X e t := fun pins s σ H Q I hw =>
  wpAny_mono (h pins s σ H Q (I.wish _) hw) (fun _ _ ⟨H', I', q⟩ => ⟨H', I'.unwish, q⟩) fun _ _ z => False.elim z
theorem PSs.nox {st : List Stmt} {t : TS} (h : PSs X.nox st t) : PSs X st t := fun pins s σ H D I hw =>
  wpAny_mono (h pins s σ H D (I.wish _) hw) (fun _ _ q => q.unwish) fun _ _ z => False.elim z
end

section
variable {X : Cx} {st : Stmt} {rest : List Stmt} {t u : TS} {e : Expr} {te : TE} {pos : Pos}
def tNext : TS := fun D σ H => D.nx σ H
def tSeq (t u : TS) : TS := fun D σ H => t { D with nx := u D } σ H
theorem pss_nil : PSs X [] tNext := fun _ _ σ H _ I h => wpAny_execs_nil ⟨σ, H, I, h⟩
theorem pss_cons (h1 : PS X st t) (h2 : PSs X rest u) : PSs X (st :: rest) (tSeq t u) := by
  intro pins s σ H D I h
  refine wpAny_execs_cons (thn (h1 pins s σ H { D with nx := u D } I h) fun f s1 q => ?_)
  cases f with
  | next =>
    obtain ⟨σ', H', I', q⟩ := q
    exact h2 pins s1 σ' H' D I' q
  | ret v => exact q
  | brk => exact q
  | cont => exact q
theorem pss_one (h1 : PS X st t) : PSs X [st] t := by
  intro pins s σ H D I h
  refine wpAny_execs_cons (thn (h1 pins s σ H D I h) fun f s1 q => ?_)
  cases f with
  | next => exact wpAny_execs_nil q
  | ret v => exact q
  | brk => exact q
  | cont => exact q
theorem Inv.quiet {pins : List (Addr × Obj)} {σ : St} {H : Hp} {s : Shared} (I : Inv X pins σ H s) : interactive X.env = false := by simp [interactive, I.ok.kind]
def tDrop (te : TE) : TS := fun D σ H => te σ H fun _ H1 => D.nx σ H1
theorem ps_expr (he : PE X e te) (hs : swapsWith e none pos.line X.env = pure false := by rfl) : PS X (.Expr e pos) (tDrop te) := by
  intro pins s σ H D I h
  exact wpAny_Expr_any (thn (he pins s σ H _ I h) fun v s1 ⟨x, H1, I1, r1, q1⟩ => ⟨σ, H1, I1, q1⟩) I.quiet hs
def tRet (te : TE) : TS := fun D σ H => te σ H D.rt
theorem ps_ret (he : PE X e te) : PS X (.Return (some e) pos) (tRet te) := by
  intro pins s σ H D I h
  exact wpAny_Return_some (thn (he pins s σ H _ I h) fun v s1 ⟨x, H1, I1, r1, q1⟩ => ⟨x, σ, H1, I1, r1, q1⟩)
def tIfS (c : TT) (t u : TS) : TS := fun D σ H => c σ H fun b H1 => if b = true then t D σ H1 else u D σ H1
theorem ps_if {c : Expr} {a b : List Stmt} {tc : TT} (hc : PT X c tc) (ha : PSs X a t) (hb : PSs X b u) : PS X (.If c a b pos) (tIfS tc t u) := by
  intro pins s σ H D I h
  refine wpAny_If (thn (hc pins s σ H _ I h) fun d s1 ⟨H1, I1, q1⟩ => ?_)
  cases d with
  | true => exact ha pins s1 σ H1 D I1 q1
  | false => exact hb pins s1 σ H1 D I1 q1
def tNever : TS := fun _ _ _ => False
theorem ps_never : PS X st tNever := fun _ _ _ _ _ _ h => h.elim
end

abbrev TG := V → St → Hp → (St → Hp → Prop) → Prop
abbrev TGs := List V → St → Hp → (St → Hp → Prop) → Prop
def PG (X : Cx) (target : Expr) (t : TG) : Prop :=
  ∀ (pins : List (Addr × Obj)) (s : Shared) (σ : St) (H : Hp) (v : V) (u : Value) (Q : St → Hp → Prop), Inv X pins σ H s → RelV v u → t v σ H Q →
    wpAny (model X.prog X.w) X.A (assign target X.env u) (fun _ s' => ∃ σ' H', Inv X pins σ' H' s' ∧ Q σ' H') X.xe s
def PGs (X : Cx) (ts : List Expr) (t : TGs) : Prop :=
  ∀ (pins : List (Addr × Obj)) (s : Shared) (σ : St) (H : Hp) (vs : List V) (us : List Value) (Q : St → Hp → Prop), Inv X pins σ H s → Vals vs us → t vs σ H Q →
    wpAny (model X.prog X.w) X.A (assignInOrder ((assignEach ts X.env).map (·.2)) us) (fun _ s' => ∃ σ' H', Inv X pins σ' H' s' ∧ Q σ' H') X.xe s
abbrev TSet := V → V → V → Hp → (Hp → Prop) → Prop
def PSet (X : Cx) (t : TSet) : Prop :=
  ∀ (pins : List (Addr × Obj)) (s : Shared) (σ : St) (H : Hp) (o i v : V) (ov iv u : Value) (Q : Hp → Prop), Inv X pins σ H s → RelV o ov → RelV i iv → RelV v u → t o i v H Q →
    wpAny (model X.prog X.w) X.A (setItem ov iv u) (fun _ s' => ∃ H', Inv X pins σ H' s' ∧ Q H') X.xe s
section
variable {X : Cx} {pos : Pos}
def gName (i : Nat) : TG := fun v σ H Q => Q (σ.set i (some v)) H
theorem pg_name {i : Nat} {x : Str} (hN : X.N.Nodup) (hi : X.N[i]? = some x) (hx : Loc X.env.scope x) (hf : X.fn x = true ∨ X.env.scope.names.lookup x = some .local := by first | exact .inl rfl | exact .inr rfl | assumption) : PG X (.Name x pos) (gName i) := by
  intro pins s σ H v u Q I r h
  exact wpAny_assign_Name (store_ok I hN hi hx r (fun s' I' => ⟨_, H, I', h⟩) hf)
def gNil : TGs := fun vs σ H Q => vs = [] ∧ Q σ H
def gCons (t : TG) (u : TGs) : TGs := fun vs σ H Q => ∃ v r, vs = v :: r ∧ t v σ H fun σ' H' => u r σ' H' Q
theorem pgs_nil : PGs X [] gNil := by
  intro pins s σ H vs us Q I r h
  obtain ⟨e, h⟩ := h
  subst e
  cases r
  exact assignInOrder_nil ⟨σ, H, I, h⟩
theorem pgs_cons {e : Expr} {es : List Expr} {t : TG} {u : TGs} (h1 : PG X e t) (h2 : PGs X es u)
    (hs : (assignEach (e :: es) X.env).map (·.2) = assign e X.env :: (assignEach es X.env).map (·.2) := by rfl) : PGs X (e :: es) (gCons t u) := by
  intro pins s σ H vs us Q I r h
  obtain ⟨v, vr, e1, h⟩ := h
  subst e1
  cases r with
  | cons r rr =>
    rw [hs]
    refine assignInOrder_cons (thn (h1 pins s σ H _ _ _ I r h) fun _ s1 ⟨σ1, H1, I1, q1⟩ => ?_)
    exact h2 pins s1 σ1 H1 _ _ Q I1 rr q1
def gTup (K : PySem.W.Frag) (n : Nat) (t : TGs) : TG := fun v σ H Q => ∃ a xs, v = .ref a ∧ SqT K H a xs ∧ xs.length = n ∧ t xs σ H Q
theorem pg_tup {es : List Expr} {k : Nat} {t : TGs} {n : Nat} (hc : X.calm = true) (h : PGs X es t)
    (hn : (assignEach es X.env).length = n := by rfl) (hst : (assignEach es X.env).findIdx? (·.1) = none := by rfl) : PG X (.Tuple es k pos) (gTup X.K n t) := by
  intro pins s σ H v u Q I r hw
  obtain ⟨a, xs, e1, hq, hl, hw⟩ := hw
  subst e1
  cases r
  obtain ⟨its, rv, ht, hz⟩ := I.tuple hq
  refine assign_Tuple_tuple (I.ok.hd hc) ht (by simp [hn, ← hl, rv.length]) hst fun h' hx => ?_
  have I1 : Inv X pins σ H { s with heap := h' } := I.kept (t' := s.toks) fun b o e => hx b o (Nat.ne_of_lt (Heap.lt_size e)) e
  exact h pins _ σ H xs _ Q I1 (by simpa using rv) hw
def gSub (to ti : TE) (t : TSet) : TG := fun v σ H Q => to σ H fun o H1 => ti σ H1 fun i H2 => t o i v H2 fun H3 => Q σ H3
theorem pg_sub {o i : Expr} {to ti : TE} {t : TSet} (ho : PE X o to) (hi : PE X i ti) (hs : PSet X t)
    (ha : ∀ v, assign (.Subscript o i pos) X.env v = (do
      let ov ← holding [v] (eval o X.env)
      let iv ← holding [v, ov] (eval i X.env)
      standAt pos
      holding [v, ov, iv] (setItem ov iv v)
      release [v, ov, iv] []) := by intro _; rfl) : PG X (.Subscript o i pos) (gSub to ti t) := by
  intro pins s σ H v u Q I r h
  rw [ha]
  refine wpAny_bind (wpAny_holding (thn (ho pins s σ H _ I h) fun ov s1 ⟨x, H1, I1, r1, q1⟩ => ?_))
  refine wpAny_bind (wpAny_holding (thn (hi pins s1 σ H1 _ I1 q1) fun iv s2 ⟨y, H2, I2, r2, q2⟩ => ?_))
  refine wpAny_bind (wpAny_standAt (wpAny_bind (wpAny_holding (thn (hs pins s2 σ H2 x y v ov iv u _ I2 r1 r2 r q2) fun _ s3 ⟨H3, I3, q3⟩ => ?_))))
  exact wpAny_release ⟨σ, H3, I3, q3⟩
def tAsg (te : TE) (g : TG) : TS := fun D σ H => te σ H fun x H1 => g x σ H1 D.nx
theorem ps_asg {tg e : Expr} {te : TE} {g : TG} (he : PE X e te) (hg : PG X tg g) (hs : swapsWithSole [tg] e pos.line X.env = pure false := by rfl) (hw : swappedStores [tg] e X.env = pure none := by rfl)
    (h1 : (assignEach [tg] X.env).map (·.2) = [assign tg X.env] := by rfl) : PS X (.Assign [tg] e pos) (tAsg te g) := by
  intro pins s σ H D I h
  refine wpAny_Assign_stores (thn (he pins s σ H _ I h) fun v s1 ⟨x, H1, I1, r1, q1⟩ => ?_) hs hw
  rw [h1]
  exact thn (hg pins s1 σ H1 x v _ I1 r1 q1) fun _ s2 q => q
theorem ps_set {i : Nat} {x : Str} {e : Expr} {te : TE} {pos' : Pos} (hN : X.N.Nodup) (hi : X.N[i]? = some x) (hx : Loc X.env.scope x) (he : PE X e te) (hs : swapsWith e (some (.Name x pos')) pos.line X.env = pure false := by rfl) (hf : X.fn x = true ∨ X.env.scope.names.lookup x = some .local := by first | exact .inl rfl | exact .inr rfl | assumption) :
    PS X (.Assign [.Name x pos'] e pos) (tAsg te (gName i)) := by
  intro pins s σ H D I h
  refine wpAny_Assign_Name (thn (he pins s σ H _ I h) fun v s1 ⟨y, H1, I1, r1, q1⟩ => ?_) hs
  exact store_ok I1 hN hi hx r1 (fun s2 I2 => ⟨_, H1, I2, q1⟩) hf
end

section
variable {X : Cx} {pos : Pos}
end


structure It where
  go : Nat → Hp → Prop
  yld : Nat → Hp → V → Hp → Prop
  stop : Nat → Hp → Prop
def FpOk (X : Cx) (pins : List (Addr × Obj)) (H : Hp) (b : Addr) : Prop :=
  H b = none ∧ b ≠ X.env.locals ∧ b ∉ X.fs ∧ (b ∈ X.ex ∨ X.s₀.heap.objs.size ≤ b) ∧ (∀ x c, X.env.cells.lookup x = some c → c ≠ b) ∧ ∀ p ∈ X.pn ++ pins, p.1 ≠ b
theorem Inv.fpOk {X : Cx} {pins : List (Addr × Obj)} {σ : St} {H H' : Hp} {s : Shared} {b : Addr} (I : Inv X pins σ H s) (hb : s.heap.objs.size ≤ b) (hn : H' b = none) : FpOk X pins H' b := by
  refine ⟨hn, Nat.ne_of_gt (Nat.lt_of_lt_of_le I.lt hb), I.nofs hb, .inr (Nat.le_trans I.sz hb), fun x c e z => ?_, fun p hp z => ?_⟩
  · obtain ⟨v, q⟩ := I.cell x c e
    exact absurd (Nat.lt_of_lt_of_le q.lt (by rw [z]; exact hb)) (Nat.lt_irrefl _)
  · exact absurd (Nat.lt_of_lt_of_le (Heap.lt_size (I.pin p hp).1) (by rw [z]; exact hb)) (Nat.lt_irrefl _)
structure Turn (P : Program) (w : World) (K : PySem.W.Frag) (tg : Expr) (J : It) (fp : List Addr) (it : Addr) (tn : Nat → Heap → Prop) : Prop where
  mem : it ∈ fp
  obj : ∀ i h, tn i h → ∀ b ∈ fp, ∃ o, h.get? b = some o ∧ ∀ v, o.data ≠ .cell v
  keep : ∀ i h h', tn i h → (∀ b ∈ fp, ∀ o, h.get? b = some o → h'.get? b = some o) → tn i h'
  item : ∀ (X : Cx), X.prog = P → X.w = w → X.K = K → X.calm = true → ∀ (i : Nat) (pins : List (Addr × Obj)) (s : Shared) (σ : St) (H : Hp) (E : Value → Shared → Prop), Inv X pins σ H s → (∀ b ∈ fp, FpOk X pins H b) → tn i s.heap → J.go i H →
    wpAny (model P w) X.A (pyNext (.ref it)) (fun r s1 => ∃ u, r = some u ∧
      wpAny (model P w) X.A (letOwnedTupleGo tg (.ref it) u) (fun _ s2 => ∃ x H', Inv X pins σ H' s2 ∧ RelV x u ∧ J.yld i H x H' ∧ tn (i + 1) s2.heap ∧ ∀ b ∈ fp, H' b = none) E s1) E s
  done : ∀ (X : Cx), X.prog = P → X.w = w → X.K = K → X.calm = true → ∀ (i : Nat) (pins : List (Addr × Obj)) (s : Shared) (σ : St) (H : Hp) (E : Value → Shared → Prop), Inv X pins σ H s → (∀ b ∈ fp, FpOk X pins H b) → tn i s.heap → J.stop i H →
    wpAny (model P w) X.A (pyNext (.ref it)) (fun r s1 => r = none ∧ Inv X pins σ H s1) E s
  self : ∀ (A : Around) (i : Nat) (s : Shared) (Q : Value → Shared → Prop) (E : Value → Shared → Prop), tn i s.heap → Q (.ref it) s → wpAny (model P w) A (pyIter (.ref it)) Q E s
abbrev TI := St → Hp → (It → Hp → Prop) → Prop
def PIE (X : Cx) (pins : List (Addr × Obj)) (σ : St) (tg : Expr) (R : It → Hp → Prop) (itv : Value) (s2 : Shared) : Prop :=
  ∃ (it : Addr) (fp : List Addr) (tn : Nat → Heap → Prop) (J : It) (H' : Hp), itv = .ref it ∧ Inv X pins σ H' s2 ∧ Turn X.prog X.w X.K tg J fp it tn ∧ tn 0 s2.heap ∧ (∀ b ∈ fp, FpOk X pins H' b) ∧ R J H'
def PI (X : Cx) (tg iter : Expr) (wi : TI) : Prop :=
  ∀ (pins : List (Addr × Obj)) (s : Shared) (σ : St) (H : Hp) (R : It → Hp → Prop), Inv X pins σ H s → wi σ H R →
    wpAny (model X.prog X.w) X.A (eval iter X.env) (fun v s1 => wpAny (model X.prog X.w) X.A (pyIter v) (PIE X pins σ tg R) X.xe s1) X.xe s

theorem go_of {M : Model} {A : Around} {E : Value → Shared → Prop} {s : Shared} {tg : Expr} {it : Addr} {u : Value} {o : Obj} {n : String} {vs : Array Value} {Q : Unit → Shared → Prop} (ho : s.heap.get? it = some o) (hc : o.cls = .type n) (hd : o.data = .fields vs)
    (hn : ["enumerate", "zip", "dict_itemiterator", "dict_reverseitemiterator", "odict_iterator", "itertools.zip_longest", "itertools.pairwise"].contains n = false) (hQ : Q () s) : wpAny M A (letOwnedTupleGo tg (.ref it) u) Q E s := by
  unfold letOwnedTupleGo
  cases tg <;> first
    | exact wpAny_pure hQ
    | (cases u <;> first
        | exact wpAny_pure hQ
        | (refine wpAny_bind (wpAny_load ho ?_)
           rw [hc, hd]
           show wpAny M A (if (["enumerate", "zip", "dict_itemiterator", "dict_reverseitemiterator", "odict_iterator", "itertools.zip_longest", "itertools.pairwise"].contains n && vs[0]? == some (rawInt _)) = true then _ else _) Q E s
           rw [if_neg (by intro h; rw [hn, Bool.false_and] at h; cases h)]
           exact wpAny_pure hQ))

def Itl (K : PySem.W.Frag) (a : Addr) : It :=
  ⟨fun i H => ∃ xs x, SqL K H a xs ∧ xs[i]? = some x, fun i H x H' => H' = H ∧ ∀ xs, SqL K H a xs → xs[i]? = some x, fun i H => ∃ xs, SqL K H a xs ∧ xs.length ≤ i⟩
def Itt (K : PySem.W.Frag) (a : Addr) : It :=
  ⟨fun i H => ∃ xs x, SqT K H a xs ∧ xs[i]? = some x, fun i H x H' => H' = H ∧ ∀ xs, SqT K H a xs → xs[i]? = some x, fun i H => ∃ xs, SqT K H a xs ∧ xs.length ≤ i⟩
def Itr (lo : Int) (n : Nat) : It := ⟨fun i _ => i < n, fun i H x H' => H' = H ∧ x = .int (lo + i), fun i _ => n ≤ i⟩
theorem turn_list {P : Program} {w : World} {K : PySem.W.Frag} {tg : Expr} (a it : Addr) : Turn P w K tg (Itl K a) [it] it (fun i h => h.IsListIter it a i) where
  mem := by simp
  obj := fun i h st b hb => by
    have e : b = it := by simpa using hb
    subst e
    obtain ⟨o, e, c, d⟩ := st
    exact ⟨o, e, fun v z => by rw [d] at z; cases z⟩
  keep := fun i h h' st k => st.at fun o e => k it (by simp) o e
  item := by
    intro X hP hw hK hc i pins s σ H E I hf st hg
    subst hP hw hK
    obtain ⟨xs, x, hq, hx⟩ := hg
    obtain ⟨its, rv, p, hz⟩ := I.list hq
    obtain ⟨u, hu, ru⟩ := rv.get hx
    obtain ⟨f0, f1, f2, f3, f4, f5⟩ := hf it (by simp)
    refine wpAny_pyNext_list_item st p.isList (x := u) (by simpa using hu) fun h' st' sb => ?_
    have I1 : Inv X pins σ H { s with heap := h' } := I.turned (t' := s.toks) (fun b o hb e => (sb.2 b hb).trans e) f0 f1 f3 f4 f5
    obtain ⟨o, e, c, d⟩ := id st'
    exact ⟨u, rfl, go_of (s := { s with heap := h' }) e c d (by decide) ⟨x, H, I1, ru, ⟨rfl, fun ys hy => by rw [I.list_inj hy hq]; exact hx⟩, st', fun b hb => (hf b hb).1⟩⟩
  done := by
    intro X hP hw hK hc i pins s σ H E I hf st hg
    subst hP hw hK
    obtain ⟨xs, hq, hx⟩ := hg
    obtain ⟨its, rv, p, hz⟩ := I.list hq
    obtain ⟨f0, f1, f2, f3, f4, f5⟩ := hf it (by simp)
    have hl := rv.length
    exact wpAny_pyNext_list_end (I.ok.hd hc) st p.isList (by simp; omega) fun h' eb => ⟨rfl, I.turned (t' := s.toks) (fun b o hb e => eb b o hb e) f0 f1 f3 f4 f5⟩
  self := fun _ _ _ _ _ st h => wpAny_pyIter_listiter st h
theorem turn_tuple {P : Program} {w : World} {K : PySem.W.Frag} {tg : Expr} (a it : Addr) : Turn P w K tg (Itt K a) [it] it (fun i h => h.IsTupleIter it a i) where
  mem := by simp
  obj := fun i h st b hb => by
    have e : b = it := by simpa using hb
    subst e
    obtain ⟨o, e, c, d⟩ := st
    exact ⟨o, e, fun v z => by rw [d] at z; cases z⟩
  keep := fun i h h' st k => st.at fun o e => k it (by simp) o e
  item := by
    intro X hP hw hK hc i pins s σ H E I hf st hg
    subst hP hw hK
    obtain ⟨xs, x, hq, hx⟩ := hg
    obtain ⟨its, rv, p, hz⟩ := I.tuple hq
    obtain ⟨u, hu, ru⟩ := rv.get hx
    obtain ⟨f0, f1, f2, f3, f4, f5⟩ := hf it (by simp)
    refine wpAny_pyNext_tuple_item st (show s.heap.IsTuple a its.toArray from p) (x := u) (by simpa using hu) fun h' st' sb => ?_
    have I1 : Inv X pins σ H { s with heap := h' } := I.turned (t' := s.toks) (fun b o hb e => (sb.2 b hb).trans e) f0 f1 f3 f4 f5
    obtain ⟨o, e, c, d⟩ := id st'
    exact ⟨u, rfl, go_of (s := { s with heap := h' }) e c d (by decide) ⟨x, H, I1, ru, ⟨rfl, fun ys hy => by rw [I.tuple_inj hy hq]; exact hx⟩, st', fun b hb => (hf b hb).1⟩⟩
  done := by
    intro X hP hw hK hc i pins s σ H E I hf st hg
    subst hP hw hK
    obtain ⟨xs, hq, hx⟩ := hg
    obtain ⟨its, rv, p, hz⟩ := I.tuple hq
    obtain ⟨f0, f1, f2, f3, f4, f5⟩ := hf it (by simp)
    have hl := rv.length
    exact wpAny_pyNext_tuple_end (I.ok.hd hc) st (show s.heap.IsTuple a its.toArray from p) (by simp; omega) fun h' eb => ⟨rfl, I.turned (t' := s.toks) (fun b o hb e => eb b o hb e) f0 f1 f3 f4 f5⟩
  self := fun _ _ _ _ _ st h => wpAny_pyIter_tupleiter st h
theorem turn_range {P : Program} {w : World} {K : PySem.W.Frag} {tg : Expr} (it : Addr) (lo : Int) (n : Nat) : Turn P w K tg (Itr lo n) [it] it (fun i h => IsRangeIter h it (lo + (i : Nat) * 1) ((n : Int) - (i : Nat)) 1) where
  mem := by simp
  obj := fun i h st b hb => by
    have e : b = it := by simpa using hb
    subst e
    exact ⟨_, st, fun v z => by
      have z' : Data.fields _ = Data.cell v := z
      cases z'⟩
  keep := fun i h h' st k => k it (by simp) _ st
  item := by
    intro X hP hw hK hc i pins s σ H E I hf st hg
    subst hP hw hK
    obtain ⟨f0, f1, f2, f3, f4, f5⟩ := hf it (by simp)
    have W := Walks.range (prog := X.prog) (w := X.w) (I.ok.hd hc) it lo 1 n
    refine W.item i s _ _ hg st fun v h' tk hv st' kk => ?_
    obtain ⟨t, rfl⟩ := hv
    have I1 : Inv X pins σ H { s with heap := h', toks := tk } := I.turned (fun b o hb e => kk b o (by simpa using hb) e) f0 f1 f3 f4 f5
    refine ⟨_, rfl, go_of (s := { s with heap := h', toks := tk }) (n := "range_iterator") st' rfl rfl (by decide) ⟨.int (lo + i), H, I1, ⟨t, ?_⟩, ⟨rfl, rfl⟩, st', fun b hb => (hf b hb).1⟩⟩
    rw [Int.mul_one]
  done := by
    intro X hP hw hK hc i pins s σ H E I hf st hg
    subst hP hw hK
    obtain ⟨f0, f1, f2, f3, f4, f5⟩ := hf it (by simp)
    exact wpAny_pyNext_range_end (I.ok.hd hc) st (by have : n ≤ i := hg; omega) fun h' eb => ⟨rfl, I.turned (t' := s.toks) (fun b o hb e => eb b o hb e) f0 f1 f3 f4 f5⟩
  self := fun _ _ _ _ _ st h => wpAny_pyIter_rangeiter st h
end L2

namespace L2
open PySem PySem.Spec PyProof.Rows
section
variable {X : Cx} {tg : Expr}
theorem range_it {pins : List (Addr × Obj)} {σ : St} {H : Hp} {s : Shared} {R : It → Hp → Prop} {E : Value → Shared → Prop} {lo hi : Int} {t u v : Tok} {tk : Nat} (I : Inv X pins σ H s) (h1 : -(2 ^ 62) ≤ lo) (h2 : lo < 2 ^ 62) (h3 : -(2 ^ 62) ≤ hi) (h4 : hi < 2 ^ 62)
    (q : R (Itr lo (hi - lo).toNat) H) : wpAny (model X.prog X.w) X.A (pyIter (.ref s.heap.objs.size)) (PIE X pins σ tg R) E { s with heap := s.heap.push { cls := .type "range", data := .fields #[.int lo t, .int hi u, .int 1 v] }, toks := tk } := by
  refine wpAny_pyIter_range (IsRange.new ..) (small_one h1 h2 h3 h4) ?_
  have I1 : Inv X pins σ H { s with heap := s.heap.push { cls := .type "range", data := .fields #[.int lo t, .int hi u, .int 1 v] }, toks := tk } := I.kept fun b o e => Heap.get?_push_of_some _ e
  refine ⟨(s.heap.push { cls := .type "range", data := .fields #[.int lo t, .int hi u, .int 1 v] }).objs.size, [(s.heap.push { cls := .type "range", data := .fields #[.int lo t, .int hi u, .int 1 v] }).objs.size], _, _, H, rfl,
    I1.kept (t' := tk) fun b o e => Heap.get?_push_of_some _ e, turn_range _ lo (hi - lo).toNat, ?_, fun b hb => ?_, q⟩
  · have e1 : lo + ((0 : Nat) : Int) * 1 = lo := by simp
    have e2 : (((hi - lo).toNat : Nat) : Int) - ((0 : Nat) : Int) = Builtin.Range.rangeSize lo hi 1 := by rw [rangeSize_one]; split <;> omega
    show IsRangeIter _ _ (lo + ((0 : Nat) : Int) * 1) ((((hi - lo).toNat : Nat) : Int) - ((0 : Nat) : Int)) 1
    rw [e1, e2]
    exact Heap.get?_push_size _ rfl
  · have e : b = (s.heap.push { cls := .type "range", data := .fields #[.int lo t, .int hi u, .int 1 v] }).objs.size := by simpa using hb
    subst e
    exact I1.fpOk (Nat.le_refl _) (I1.hok.fresh (Nat.le_refl _))
def iRng1 (ta : TA) : TI := fun σ H R => ta σ H fun vs H1 => ∃ j : Int, vs = [.int j] ∧ -(2 ^ 62) ≤ j ∧ j < 2 ^ 62 ∧ R (Itr 0 j.toNat) H1
theorem pi_range1 {a : Expr} {ta : TA} {p pos : Pos} (hg : Gl X "range") (hm : X.mg "range" = none) (ha : PA X [a] ta) (hs : starEach [a] X.env = [(false, eval a X.env)] := by rfl) : PI X tg (.Call (.Name "range" p) [a] [] pos) (iRng1 ta) := by
  intro pins s σ H R I h
  refine Call_ (ld_blt I hg hm boot_range (PyProof.Rows.callWith_type1 (thn (ha pos pins s σ H _ I h) fun us s1 ⟨vs, H1, I1, r1, q1⟩ => ?_) hs rfl))
  obtain ⟨j, e, q1, q2, q⟩ := q1
  subst e
  cases r1 with
  | cons r rr =>
    cases rr
    obtain ⟨t, rfl⟩ := r
    exact call_range_1 (range_it I1 (by omega) (by omega) q1 q2 (by simpa using q))
def tFor (wi : TI) (g : TG) (tb : TS) : TS := fun D σ H => wi σ H fun J H1 => ∃ W : Nat → Nat → St → Hp → Prop, (∃ m, W 0 m σ H1) ∧ ∀ i m σ H, W i m σ H →
  (J.stop i H ∧ D.nx σ H) ∨ (J.go i H ∧ ∃ N : St → Hp → Prop, (∀ σ' H', N σ' H' → ∃ m', m' < m ∧ W (i + 1) m' σ' H') ∧ ∀ x H', J.yld i H x H' → g x σ H' fun σ2 H2 => tb { D with nx := N, ct := N, bk := D.nx } σ2 H2)
def pinsAt (fp : List Addr) (h : Heap) : List (Addr × Obj) := fp.filterMap fun b => (h.get? b).map fun o => (b, o)
theorem mem_pinsAt {fp : List Addr} {h : Heap} {b : Addr} {o : Obj} (hb : b ∈ fp) (e : h.get? b = some o) : (b, o) ∈ pinsAt fp h := List.mem_filterMap.mpr ⟨b, hb, by rw [e]; rfl⟩
theorem of_pinsAt {fp : List Addr} {h : Heap} {p : Addr × Obj} (hp : p ∈ pinsAt fp h) : p.1 ∈ fp ∧ h.get? p.1 = some p.2 := by
  obtain ⟨b, hb, e⟩ := List.mem_filterMap.mp hp
  cases q : h.get? b with
  | none => rw [q] at e; cases e
  | some o =>
    rw [q] at e
    have e' : (b, o) = p := Option.some.inj e
    subst e'
    exact ⟨hb, q⟩
theorem Inv.pinned {pins : List (Addr × Obj)} {σ : St} {H : Hp} {s : Shared} {fp : List Addr} (I : Inv X pins σ H s) (hf : ∀ b ∈ fp, FpOk X pins H b) (ho : ∀ b ∈ fp, ∃ o, s.heap.get? b = some o ∧ ∀ v, o.data ≠ .cell v) : Inv X (pins ++ pinsAt fp s.heap) σ H s :=
  I.pins_of fun p hp => (List.mem_append.mp hp).elim (fun z => I.pin p (List.mem_append_right _ z)) fun z => by
    obtain ⟨hb, e⟩ := of_pinsAt z
    obtain ⟨f0, f1, f2, _⟩ := hf p.1 hb
    obtain ⟨o, e', d⟩ := ho p.1 hb
    rw [e] at e'; cases e'
    exact ⟨e, f0, f1, f2, d⟩
theorem Inv.unpinned {pins pl : List (Addr × Obj)} {σ : St} {H : Hp} {s : Shared} (I : Inv X (pins ++ pl) σ H s) : Inv X pins σ H s := I.pins_of fun p hp => I.pin p (List.mem_append_right _ (List.mem_append_left _ hp))
theorem ps_for {iter : Expr} {body : List Stmt} {wi : TI} {g : TG} {tb : TS} {pos : Pos} (hp : PassesOwn (model X.prog X.w) X.A X.env X.xe) (hc : X.calm = true) (hi : PI X tg iter wi) (hg : PG X tg g) (hb : PSs X body tb)
    (hs : ∀ x, foldedSetIterable iter X.env x = pure x := by intro _; rfl) : PS X (.For tg iter body [] pos) (tFor wi g tb) := by
  intro pins s σ H D I h
  refine wpAny_For (thn (hi pins s σ H _ I h) fun v s1 h1 => thn h1 fun itv s2 h2 => ?_) hs
  obtain ⟨it, fp, tn, J, H2, e, I2, T, st2, f2, W, ⟨m0, w0⟩, turn⟩ := h2
  subst e
  -- what stays true of the iterator's objects through the loop
  have stat : ∀ {H' : Hp}, (∀ b ∈ fp, H' b = none) → ∀ b ∈ fp, FpOk X pins H' b := fun hn b hb => ⟨hn b hb, (f2 b hb).2⟩
  refine codeAny_forLoop_any (fun n s' => ∃ i σ' H', Inv X pins σ' H' s' ∧ tn i s'.heap ∧ (∀ b ∈ fp, H' b = none) ∧ W i n σ' H') ?_ m0 ⟨0, σ, H2, I2, st2, fun b hb => (f2 b hb).1, w0⟩
  rintro n s3 ⟨i, σ3, H3, I3, st3, fr3, w3⟩
  rcases turn i n σ3 H3 w3 with ⟨stop, qn⟩ | ⟨go, N, hN, step⟩
  · refine wpAny_passesOwn hp (thn (T.done X rfl rfl rfl hc i pins s3 σ3 H3 X.xe I3 (stat fr3) st3 stop) fun r s4 ⟨hr, I4⟩ => ?_)
    subst hr
    exact wpAny_execs_nil ⟨σ3, H3, I4, qn⟩
  · refine wpAny_passesOwn hp (thn (T.item X rfl rfl rfl hc i pins s3 σ3 H3 X.xe I3 (stat fr3) st3 go) fun r s4 ⟨u, hr, h4⟩ => ?_)
    subst hr
    refine wpAny_passesOwn hp (thn h4 fun _ s5 ⟨x, H5, I5, r5, y5, st5, fr5⟩ => ?_)
    have I5' := I5.pinned (stat fr5) (T.obj _ _ st5)
    refine wpAny_passesOwn hp (thn (hg _ s5 σ3 H5 x u _ I5' r5 (step x H5 y5)) fun _ s6 ⟨σ6, H6, I6, q6⟩ => ?_)
    refine wpAny_passesOwn hp (thn (hb _ s6 σ6 H6 _ I6 q6) fun f s7 q7 => ?_)
    have again : ∀ {σ7 : St} {H7 : Hp}, Inv X (pins ++ pinsAt fp s5.heap) σ7 H7 s7 → N σ7 H7 → ∃ m, m < n ∧ ∃ i σ' H', Inv X pins σ' H' s7 ∧ tn i s7.heap ∧ (∀ b ∈ fp, H' b = none) ∧ W i m σ' H' := fun {σ7 H7} I7 n7 => by
      obtain ⟨m', hm, w7⟩ := hN σ7 H7 n7
      refine ⟨m', hm, i + 1, σ7, H7, I7.unpinned, T.keep _ _ _ st5 fun b hb o e => (I7.pin (b, o) (List.mem_append_right _ (List.mem_append_right _ (mem_pinsAt hb e)))).1, fun b hb => ?_, w7⟩
      obtain ⟨o, e, d⟩ := T.obj _ _ st5 b hb
      exact (I7.pin (b, o) (List.mem_append_right _ (List.mem_append_right _ (mem_pinsAt hb e)))).2.1
    cases f with
    | next => obtain ⟨σ7, H7, I7, n7⟩ := q7; exact again I7 n7
    | cont => obtain ⟨σ7, H7, I7, n7⟩ := q7; exact again I7 n7
    | brk => obtain ⟨σ7, H7, I7, q7⟩ := q7; exact ⟨σ7, H7, I7.unpinned, q7⟩
    | ret v => obtain ⟨x7, σ7, H7, I7, r7, q7⟩ := q7; exact ⟨x7, σ7, H7, I7.unpinned, r7, q7⟩
end

end L2

namespace L2
open PySem PySem.Spec PyProof.Rows

abbrev R2 := V → V → Hp → VK → Prop
def OpR (X : Cx) (f : Value → Value → Sem Value) (r : R2) : Prop :=
  ∀ (pins : List (Addr × Obj)) (s : Shared) (σ : St) (H : Hp) (x y : V) (v u : Value) (Q : VK), Inv X pins σ H s → RelV x v → RelV y u → r x y H Q →
    wpAny (model X.prog X.w) X.A (f v u) (EP X pins σ Q) X.xe s
def UnR (X : Cx) (f : Value → Sem Value) (r : V → Hp → VK → Prop) : Prop :=
  ∀ (pins : List (Addr × Obj)) (s : Shared) (σ : St) (H : Hp) (x : V) (v : Value) (Q : VK), Inv X pins σ H s → RelV x v → r x H Q →
    wpAny (model X.prog X.w) X.A (f v) (EP X pins σ Q) X.xe s
def CallR (X : Cx) (f : Value) (r : List V → Hp → VK → Prop) : Prop :=
  ∀ (pins : List (Addr × Obj)) (s : Shared) (σ : St) (H : Hp) (xs : List V) (us : List Value) (Q : VK), Inv X pins σ H s → Vals xs us → r xs H Q →
    wpAny (model X.prog X.w) X.A (call f us) (EP X pins σ Q) X.xe s
def tOp (r : R2) (ta tb : TE) : TE := fun σ H Q => ta σ H fun x H1 => tb σ H1 fun y H2 => r x y H2 Q
def tUn (r : V → Hp → VK → Prop) (ta : TE) : TE := fun σ H Q => ta σ H fun x H1 => r x H1 Q
def rI (C : Int → Int → Prop) (g : Int → Int → V) : R2 := fun x y H Q => ∃ i j, x = .int i ∧ y = .int j ∧ C i j ∧ Q (g i j) H
def rI0 (g : Int → Int → V) : R2 := fun x y H Q => ∃ i j, x = .int i ∧ y = .int j ∧ Q (g i j) H
def rU (g : Int → V) : V → Hp → VK → Prop := fun x H Q => ∃ i, x = .int i ∧ Q (g i) H

section
variable {X : Cx} {a b c : Expr} {ta tb tc : TE} {pos : Pos}

theorem binT (ha : PE X a ta) (hb : PE X b tb) {pins : List (Addr × Obj)} {s : Shared} {σ : St} {H : Hp} {R : V → V → Hp → Prop} (I : Inv X pins σ H s)
    (h : ta σ H fun x H1 => tb σ H1 fun y H2 => R x y H2) {Q : Value → Shared → Prop} {f : Value → Value → Sem Value}
    (hf : ∀ v u s2 x y H2, Inv X pins σ H2 s2 → RelV x v → RelV y u → R x y H2 → wpAny (model X.prog X.w) X.A (f v u) Q X.xe s2) :
    wpAny (model X.prog X.w) X.A (eval a X.env) (fun v s₁ => wpAny (model X.prog X.w) X.A (eval b X.env) (fun u s₂ => wpAny (model X.prog X.w) X.A (f v u) Q X.xe s₂) X.xe s₁) X.xe s := by
  refine thn (ha pins s σ H _ I h) fun v s1 ⟨x, H1, I1, r1, q1⟩ => ?_
  refine thn (hb pins s1 σ H1 _ I1 q1) fun u s2 ⟨y, H2, I2, r2, q2⟩ => ?_
  exact hf v u s2 x y H2 I2 r1 r2 q2

theorem pe_op {op : Operator} {r : R2} (ho : OpR X (binaryOp op) r) (ha : PE X a ta) (hb : PE X b tb) : PE X (.BinOp a op b pos) (tOp r ta tb) := by
  intro pins s σ H Q I h
  exact wpAny_BinOp (binT ha hb I h fun v u s2 x y H2 I2 rx ry q => ho pins s2 σ H2 x y v u Q I2 rx ry q)
theorem pe_un {op : UnaryOp} {r : V → Hp → VK → Prop} (ho : UnR X (unaryOp op) r) (ha : PE X a ta) : PE X (.UnaryOp op a pos) (tUn r ta) := by
  intro pins s σ H Q I h
  exact UnaryOp_ (thn (ha pins s σ H _ I h) fun v s1 ⟨x, H1, I1, r1, q1⟩ => ho pins s1 σ H1 x v Q I1 r1 q1)
theorem opI {f : Value → Value → Sem Value} {C : Int → Int → Prop} {g : Int → Int → Int}
    (rule : ∀ (i j : Int) (t u : Tok) (s : Shared) (Q : Value → Shared → Prop) (E : Value → Shared → Prop), C i j → Q (.int (g i j) s.toks) { s with toks := s.toks + 1 } → wpAny (model X.prog X.w) X.A (f (.int i t) (.int j u)) Q E s) :
    OpR X f (rI C fun i j => .int (g i j)) := by
  intro pins s σ H x y v u Q I rx ry h
  obtain ⟨i, j, rfl, rfl, hc, q⟩ := h
  obtain ⟨t, rfl⟩ := rx
  obtain ⟨t', rfl⟩ := ry
  exact rule i j t t' s _ _ hc ⟨.int (g i j), H, I.tok _, ⟨_, rfl⟩, q⟩
theorem opI0 {f : Value → Value → Sem Value} {g : Int → Int → Int}
    (rule : ∀ (i j : Int) (t u : Tok) (s : Shared) (Q : Value → Shared → Prop) (E : Value → Shared → Prop), Q (.int (g i j) s.toks) { s with toks := s.toks + 1 } → wpAny (model X.prog X.w) X.A (f (.int i t) (.int j u)) Q E s) :
    OpR X f (rI0 fun i j => .int (g i j)) := by
  intro pins s σ H x y v u Q I rx ry h
  obtain ⟨i, j, rfl, rfl, q⟩ := h
  obtain ⟨t, rfl⟩ := rx
  obtain ⟨t', rfl⟩ := ry
  exact rule i j t t' s _ _ ⟨.int (g i j), H, I.tok _, ⟨_, rfl⟩, q⟩
theorem opB0 {f : Value → Value → Sem Value} {g : Int → Int → Bool}
    (rule : ∀ (i j : Int) (t u : Tok) (s : Shared) (Q : Value → Shared → Prop) (E : Value → Shared → Prop), Q (.bool (g i j)) s → wpAny (model X.prog X.w) X.A (f (.int i t) (.int j u)) Q E s) :
    OpR X f (rI0 fun i j => .bl (g i j)) := by
  intro pins s σ H x y v u Q I rx ry h
  obtain ⟨i, j, rfl, rfl, q⟩ := h
  obtain ⟨t, rfl⟩ := rx
  obtain ⟨t', rfl⟩ := ry
  exact rule i j t t' s _ _ ⟨.bl (g i j), H, I, rfl, q⟩

def CPow (i j : Int) : Prop := 0 ≤ j ∧ j ≤ 1000000 ∧ i.natAbs < 2 ^ 64
def CMul (i j : Int) : Prop := (-(2 ^ 64) < i ∧ i < 2 ^ 64) ∨ (-(2 ^ 64) < j ∧ j < 2 ^ 64)
theorem CMul.ok {i j : Int} (h : CMul i j) : IntMulOk i j := by
  rcases h with ⟨h1, h2⟩ | ⟨h1, h2⟩
  · exact .of_left (intBits_le_64 h1 h2)
  · exact .of_right (intBits_le_64 h1 h2)
theorem op_add : OpR X (binaryOp .Add) (rI0 fun i j => .int (i + j)) := opI0 fun _ _ _ _ _ _ _ q => add_int q
theorem op_sub : OpR X (binaryOp .Sub) (rI0 fun i j => .int (i - j)) := opI0 fun _ _ _ _ _ _ _ q => sub_int q
theorem op_mul : OpR X (binaryOp .Mult) (rI CMul fun i j => .int (i * j)) := opI fun _ _ _ _ _ _ _ hc q => mul_int q hc.ok
theorem op_mod : OpR X (binaryOp .Mod) (rI (fun _ j => 0 < j) fun i j => .int (i % j)) := opI fun i j _ _ _ _ _ hc q => by
  have h1 : (0 : Int) < j := hc
  exact mod_int' (by omega) (by rw [Int.fmod_eq_emod_of_nonneg i (by omega)]; exact q)
theorem op_pow : OpR X (binaryOp .Pow) (rI CPow fun i j => .int (i ^ j.toNat)) := opI fun _ _ _ _ _ _ _ hc q => pow_int_small hc.1 hc.2.1 hc.2.2 q
theorem unI {f : Value → Sem Value} {g : Int → Int}
    (rule : ∀ (i : Int) (t : Tok) (s : Shared) (Q : Value → Shared → Prop) (E : Value → Shared → Prop), Q (.int (g i) s.toks) { s with toks := s.toks + 1 } → wpAny (model X.prog X.w) X.A (f (.int i t)) Q E s) :
    UnR X f (rU fun i => .int (g i)) := by
  intro pins s σ H x v Q I rx h
  obtain ⟨i, rfl, q⟩ := h
  obtain ⟨t, rfl⟩ := rx
  exact rule i t s _ _ ⟨.int (g i), H, I.tok _, ⟨_, rfl⟩, q⟩
theorem un_neg : UnR X (unaryOp .USub) (rU fun i => .int (-i)) := unI fun _ _ _ _ _ q => neg_int q
end

def scal : V → V → Bool
  | .non, .non => true | .non, .int _ => true | .int _, .non => true | .non, .bl _ => true | .bl _, .non => true | .non, .str _ => true | .str _, .non => true
  | .int _, .int _ => true | .bl _, .bl _ => true | .str _, .str _ => true | .byt _, .byt _ => true
  | .int _, .str _ => true | .str _, .int _ => true | .bl _, .str _ => true | .str _, .bl _ => true
  | _, _ => false
def rEq : R2 := fun x y H Q => scal x y = true ∧ Q (.bl (decide (x = y))) H
def rNe : R2 := fun x y H Q => scal x y = true ∧ Q (.bl (!decide (x = y))) H

theorem dec_int {i j : Int} : decide (V.int i = V.int j) = (i == j) := by
  rw [Bool.eq_iff_iff]
  simp
theorem dec_bl {i j : Bool} : decide (V.bl i = V.bl j) = (i == j) := by
  rw [Bool.eq_iff_iff]
  simp
theorem dec_str {i j : Str} : decide (V.str i = V.str j) = (i == j) := by
  rw [Bool.eq_iff_iff]
  simp
theorem dec_byt {i j : Array UInt8} : decide (V.byt i = V.byt j) = (i.toList == j.toList) := by
  rw [Bool.eq_iff_iff]
  cases i
  cases j
  simp

section
variable {X : Cx} {a b c : Expr} {ta tb tc : TE} {pos : Pos}
theorem fin_bl {pins : List (Addr × Obj)} {σ : St} {H : Hp} {s : Shared} {Q : VK} {k k' : Bool} (I : Inv X pins σ H s) (q : Q (.bl k) H) (e : k = k') : EP X pins σ Q (.bool k') s := by
  subst e
  exact ⟨.bl k, H, I, rfl, q⟩
theorem op_eq : OpR X (compareOp .Eq) rEq := by
  intro pins s σ H x y v u Q I rx ry h
  obtain ⟨hs, q⟩ := h
  cases x with
  | non =>
    cases rx
    cases y with
    | non => cases ry; exact PySem.EqNone.eq_none_none (fin_bl I q (by simp))
    | bl j => cases ry; exact PySem.EqNone.eq_none_bool (fin_bl I q (by simp))
    | int j => obtain ⟨t', rfl⟩ := ry; exact PySem.EqNone.eq_none_int (fin_bl I q (by simp))
    | str j => obtain ⟨t', rfl⟩ := ry; exact PySem.EqNone.eq_none_str (fin_bl I q (by simp))
    | _ => exact absurd (show false = true from hs) Bool.false_ne_true
  | bl i =>
    cases rx
    cases y with
    | non => cases ry; exact PySem.EqNone.eq_bool_none (fin_bl I q (by simp))
    | bl j => cases ry; exact eq_bool (fin_bl I q dec_bl)
    | str j => obtain ⟨t', rfl⟩ := ry; exact PySem.EqMixed.eq_bool_str (fin_bl I q (by simp))
    | _ => exact absurd (show false = true from hs) Bool.false_ne_true
  | int i =>
    obtain ⟨t, rfl⟩ := rx
    cases y with
    | non => cases ry; exact PySem.EqNone.eq_int_none (fin_bl I q (by simp))
    | int j => obtain ⟨t', rfl⟩ := ry; exact eq_int (fin_bl I q dec_int)
    | str j => obtain ⟨t', rfl⟩ := ry; exact PySem.EqMixed.eq_int_str (fin_bl I q (by simp))
    | _ => exact absurd (show false = true from hs) Bool.false_ne_true
  | str i =>
    obtain ⟨t, rfl⟩ := rx
    cases y with
    | non => cases ry; exact PySem.EqNone.eq_str_none (fin_bl I q (by simp))
    | bl j => cases ry; exact PySem.EqMixed.eq_str_bool (fin_bl I q (by simp))
    | int j => obtain ⟨t', rfl⟩ := ry; exact PySem.EqMixed.eq_str_int (fin_bl I q (by simp))
    | str j => obtain ⟨t', rfl⟩ := ry; exact eq_str (fin_bl I q dec_str)
    | _ => exact absurd (show false = true from hs) Bool.false_ne_true
  | byt i =>
    obtain ⟨t, rfl⟩ := rx
    cases y with
    | byt j => obtain ⟨t', rfl⟩ := ry; exact PySem.W.eq_bytes (fin_bl I q dec_byt)
    | _ => exact absurd (show false = true from hs) Bool.false_ne_true
  | _ => cases y <;> exact absurd (show false = true from hs) Bool.false_ne_true
theorem op_ne : OpR X (compareOp .NotEq) rNe := by
  intro pins s σ H x y v u Q I rx ry h
  obtain ⟨hs, q⟩ := h
  cases x with
  | non =>
    cases rx
    cases y with
    | non => cases ry; exact PySem.EqNone.ne_none_none (fin_bl I q (by simp))
    | bl j => cases ry; exact PySem.EqNone.ne_none_bool (fin_bl I q (by simp))
    | int j => obtain ⟨t', rfl⟩ := ry; exact PySem.EqNone.ne_none_int (fin_bl I q (by simp))
    | str j => obtain ⟨t', rfl⟩ := ry; exact PySem.EqNone.ne_none_str (fin_bl I q (by simp))
    | _ => exact absurd (show false = true from hs) Bool.false_ne_true
  | bl i =>
    cases rx
    cases y with
    | non => cases ry; exact PySem.EqNone.ne_bool_none (fin_bl I q (by simp))
    | bl j => cases ry; exact ne_bool (fin_bl I q (congrArg not dec_bl))
    | str j => obtain ⟨t', rfl⟩ := ry; exact PySem.EqMixed.ne_bool_str (fin_bl I q (by simp))
    | _ => exact absurd (show false = true from hs) Bool.false_ne_true
  | int i =>
    obtain ⟨t, rfl⟩ := rx
    cases y with
    | non => cases ry; exact PySem.EqNone.ne_int_none (fin_bl I q (by simp))
    | int j => obtain ⟨t', rfl⟩ := ry; exact ne_int (fin_bl I q (congrArg not dec_int))
    | str j => obtain ⟨t', rfl⟩ := ry; exact PySem.EqMixed.ne_int_str (fin_bl I q (by simp))
    | _ => exact absurd (show false = true from hs) Bool.false_ne_true
  | str i =>
    obtain ⟨t, rfl⟩ := rx
    cases y with
    | non => cases ry; exact PySem.EqNone.ne_str_none (fin_bl I q (by simp))
    | bl j => cases ry; exact PySem.EqMixed.ne_str_bool (fin_bl I q (by simp))
    | int j => obtain ⟨t', rfl⟩ := ry; exact PySem.EqMixed.ne_str_int (fin_bl I q (by simp))
    | str j => obtain ⟨t', rfl⟩ := ry; exact ne_str (fin_bl I q (congrArg not dec_str))
    | _ => exact absurd (show false = true from hs) Bool.false_ne_true
  | byt i =>
    obtain ⟨t, rfl⟩ := rx
    cases y with
    | byt j => obtain ⟨t', rfl⟩ := ry; exact PySem.W.ne_bytes (fin_bl I q (congrArg not dec_byt))
    | _ => exact absurd (show false = true from hs) Bool.false_ne_true
  | _ => cases y <;> exact absurd (show false = true from hs) Bool.false_ne_true

theorem op_lt : OpR X (compareOp .Lt) (rI0 fun i j => .bl (decide (i < j))) := opB0 fun _ _ _ _ _ _ _ q => lt_int q
theorem op_le : OpR X (compareOp .LtE) (rI0 fun i j => .bl (decide (i ≤ j))) := opB0 fun _ _ _ _ _ _ _ q => le_int q
theorem op_gt : OpR X (compareOp .Gt) (rI0 fun i j => .bl (decide (j < i))) := opB0 fun _ _ _ _ _ _ _ q => gt_int q
theorem op_ge : OpR X (compareOp .GtE) (rI0 fun i j => .bl (decide (j ≤ i))) := opB0 fun _ _ _ _ _ _ _ q => ge_int q
theorem OpR.or {f : Value → Value → Sem Value} {r r' : R2} (h : OpR X f r) (h' : OpR X f r') : OpR X f (fun x y H Q => r x y H Q ∨ r' x y H Q) := by
  intro pins s σ H x y v u Q I rx ry q
  rcases q with q | q
  · exact h pins s σ H x y v u Q I rx ry q
  · exact h' pins s σ H x y v u Q I rx ry q

theorem nomark (b : Expr) {op : CmpOp} (h : op ≠ .In := by decide) (h2 : op ≠ .NotIn := by decide) : behindInMarks op b = false := by
  have e1 : (op == CmpOp.In) = false := by cases op <;> first | rfl | exact absurd rfl h
  have e2 : (op == CmpOp.NotIn) = false := by cases op <;> first | rfl | exact absurd rfl h2
  cases b <;> simp [behindInMarks, e1, e2]
theorem pe_cmpR {op : CmpOp} {r : R2} (ho : OpR X (compareOp op) r) (ha : PE X a ta) (hb : PE X b tb) (hm : behindInMarks op b = false) : PE X (.Compare a [op] [b] pos) (tOp r ta tb) := by
  intro pins s σ H Q I h
  exact wpAny_Compare1 (binT ha hb I h fun v u s2 x y H2 I2 rx ry q => ho pins s2 σ H2 x y v u Q I2 rx ry q) hm
def tTest (t : TE) : TT := fun σ H Q => t σ H fun x H' => ∃ k, x = .bl k ∧ Q k H'
theorem pt_cmpR {op : CmpOp} {r : R2} (ho : OpR X (compareOp op) r) (ha : PE X a ta) (hb : PE X b tb) (hm : behindInMarks op b = false) : PT X (.Compare a [op] [b] pos) (tTest (tOp r ta tb)) := by
  intro pins s σ H Q I h
  refine wpAny_isTrue_Compare1 (thn (ha pins s σ H _ I h) fun v s1 ⟨x, H1, I1, r1, q1⟩ => thn (hb pins s1 σ H1 _ I1 q1) fun u s2 ⟨y, H2, I2, r2, q2⟩ =>
    thn (ho pins s2 σ H2 x y v u _ I2 r1 r2 q2) fun c s3 ⟨z, H3, I3, r3, k, e, q3⟩ => ?_) hm
  subst e
  cases r3
  exact wpAny_truthy_bool ⟨H3, I3, q3⟩
def tChain (r r' : R2) (ta tb tc : TE) : TE := fun σ H Q => ta σ H fun x H1 => tb σ H1 fun y H2 => r x y H2 fun z H3 => ∃ k, z = .bl k ∧
  (if k = true then tc σ H3 fun w' H4 => r' y w' H4 Q else Q (.bl false) H3)
theorem pt_chain {op op' : CmpOp} {r r' : R2} (ho : OpR X (compareOp op) r) (ho' : OpR X (compareOp op') r') (ha : PE X a ta) (hb : PE X b tb) (hc : PE X c tc)
    (hm : lastMarks [op, op'] [b, c] = false := by with_unfolding_all rfl) : PT X (.Compare a [op, op'] [b, c] pos) (tTest (tChain r r' ta tb tc)) := by
  intro pins s σ H Q I h
  refine isTrue_chain (thn (ha pins s σ H _ I h) fun v s1 ⟨x, H1, I1, r1, q1⟩ => test_link (thn (hb pins s1 σ H1 _ I1 q1) fun u s2 ⟨y, H2, I2, r2, q2⟩ =>
    thn (ho pins s2 σ H2 x y v u _ I2 r1 r2 q2) fun d s3 ⟨z, H3, I3, r3, k, e, q3⟩ => ?_)) hm
  subst e
  cases r3
  refine wpAny_truthy_bool ?_
  cases k with
  | false =>
    obtain ⟨k', e', q'⟩ := q3
    cases e'
    exact ite_ff ⟨H3, I3, q'⟩
  | true =>
    refine ite_tt (test_last (thn (hc pins s3 σ H3 _ I3 q3) fun w' s4 ⟨z', H4, I4, r4, q4⟩ => thn (ho' pins s4 σ H4 y z' u w' _ I4 r2 r4 q4) fun d' s5 ⟨z2, H5, I5, r5, k2, e2, q5⟩ => ?_))
    subst e2
    cases r5
    exact wpAny_truthy_bool ⟨H5, I5, q5⟩

theorem line63 : (sizeLine : Nat) < 2 ^ 63 := by rw [sizeLine_eq]; decide
theorem op_add_str : OpR X (binaryOp .Add) (fun x y H Q => ∃ i j, x = .str i ∧ y = .str j ∧ i.length + j.length ≤ sizeLine ∧ Q (.str (i ++ j)) H) := by
  intro pins s σ H x y v u Q I rx ry h
  obtain ⟨i, j, rfl, rfl, hz, q⟩ := h
  obtain ⟨t, rfl⟩ := rx
  obtain ⟨t', rfl⟩ := ry
  exact add_str (fun t' tk => ⟨.str (i ++ j), H, I.tok _, ⟨_, rfl⟩, q⟩) hz
theorem vals1 {x : V} {us : List Value} (r : Vals [x] us) : ∃ u, us = [u] ∧ RelV x u := by
  cases r with
  | cons r1 r2 => cases r2; exact ⟨_, rfl, r1⟩
theorem vals2 {x y : V} {us : List Value} (r : Vals [x, y] us) : ∃ u w', us = [u, w'] ∧ RelV x u ∧ RelV y w' := by
  cases r with
  | cons r1 r2 =>
    cases r2 with
    | cons r3 r4 => cases r4; exact ⟨_, _, rfl, r1, r3⟩
theorem call_max2 (hc : X.calm = true) : CallR X (.builtin "max") (fun xs H Q => ∃ i j, xs = [.int i, .int j] ∧ Q (.int (if j > i then j else i)) H) := by
  intro pins s σ H xs us Q I r h
  obtain ⟨i, j, rfl, q⟩ := h
  obtain ⟨u, w', rfl, ⟨t, rfl⟩, ⟨t', rfl⟩⟩ := vals2 r
  refine max_two_ints (I.ok.hd hc) fun h' tk k => ⟨_, H, I.kept k, ?_, q⟩
  by_cases hj : j > i
  · rw [if_pos hj, if_pos hj]; exact ⟨_, rfl⟩
  · rw [if_neg hj, if_neg hj]; exact ⟨_, rfl⟩
theorem call_min2 (hc : X.calm = true) : CallR X (.builtin "min") (fun xs H Q => ∃ i j, xs = [.int i, .int j] ∧ Q (.int (if j < i then j else i)) H) := by
  intro pins s σ H xs us Q I r h
  obtain ⟨i, j, rfl, q⟩ := h
  obtain ⟨u, w', rfl, ⟨t, rfl⟩, ⟨t', rfl⟩⟩ := vals2 r
  refine min_two_ints (I.ok.hd hc) fun h' tk k => ⟨_, H, I.kept k, ?_, q⟩
  by_cases hj : j < i
  · rw [if_pos hj, if_pos hj]; exact ⟨_, rfl⟩
  · rw [if_neg hj, if_neg hj]; exact ⟨_, rfl⟩
theorem call_int1 : CallR X (.type "int") (fun xs H Q => (∃ i, xs = [.int i] ∧ Q (.int i) H) ∨ ∃ k, xs = [.bl k] ∧ Q (.int (if k then 1 else 0)) H) := by
  intro pins s σ H xs us Q I r h
  rcases h with ⟨i, rfl, q⟩ | ⟨k, rfl, q⟩
  · obtain ⟨u, rfl, t, rfl⟩ := vals1 r
    exact call_int_int ⟨.int i, H, I, ⟨_, rfl⟩, q⟩
  · obtain ⟨u, rfl, r1⟩ := vals1 r
    cases r1
    exact call_int_bool ⟨.int (if k then 1 else 0), H, I.tok _, ⟨_, rfl⟩, q⟩
end
end L2

namespace L2
open PySem PySem.Spec PyProof.Rows

structure ObjM (h : Heap) (x dx C : Addr) (mA : Str → Option Value) : Prop where
  obj : h.get? x = some (PySem.W.instObj C dx)
  ns : h.Ns1 dx mA
  ne : dx ≠ x

theorem lookIn_ns {h : Heap} {dx : Addr} {mA : Str → Option Value} (n : h.Ns1 dx mA) : ∃ od, h.get? dx = some od ∧ ∀ name, PySem.W.lookIn name od = some (mA name) := by
  obtain ⟨o, es, ep, ho, hd, hk, _, hm⟩ := n
  refine ⟨o, ho, fun name => ?_⟩
  have e := hm name
  unfold nsFind findBy at e
  rw [← Array.find?_toList] at e
  unfold PySem.W.lookIn
  rw [hd]
  dsimp only
  split
  · rename_i y q
    rw [q] at e
    exact congrArg some e
  · rename_i q
    rw [q] at e
    have a : es.toList.any (·.refKey) = false := by
      rw [List.any_eq_false]
      intro y hy
      obtain ⟨z, t, hkey⟩ := hk y (Array.mem_toList_iff.mp hy)
      simp [DictEntry.refKey, hkey]
    have a' : ¬ es.toList.any (·.refKey) = true := by rw [a]; exact Bool.false_ne_true
    rw [if_neg a']
    exact congrArg some e

theorem ObjM.look {h : Heap} {x dx C : Addr} {mA : Str → Option Value} (I : ObjM h x dx C mA) : ∃ od, PySem.W.InstAt h x (PySem.W.instObj C dx) C (some od) ∧ ∀ name, PySem.W.lookIn name od = some (mA name) :=
  let ⟨od, ho, hl⟩ := lookIn_ns I.ns
  ⟨od, ⟨I.obj, rfl, rfl, ho⟩, hl⟩

section
variable {prog : Program} {w : World} {A : Around} {E : Value → Shared → Prop} {s : Shared} {K : PySem.W.Frag} {x dx C f : Addr} {mA : Str → Option Value} {name : Str} {v : Value}

end

section
variable {P : Program} {w : World} {H H' : Hp} {h h' : Heap} {a C dx : Addr} {fs fs' : List (Str × V)}
theorem ins_get (hok : HOk P w H h) (e : H a = some (.ins C dx fs)) : ∃ mA, ObjM h a dx C mA ∧ (∀ f, RelO (fs.lookup f) (mA f)) ∧ PySem.Within mA (fs.map (·.1)) ∧ fs.length ≤ 1000 ∧ H dx = some (.own a) := by
  obtain ⟨d, z, ne, ob, mA, n, r, q⟩ := (show ObjOk P w H h a (.ins C dx fs) from hok a _ e)
  exact ⟨mA, ⟨ob, n, ne⟩, r, q, z, d⟩
end

structure Cls (K : PySem.W.Frag) (C : Addr) : Prop where
  pg : PySem.W.plainGet K C Str.empty = true
  hd : PySem.W.hasDictIn K C = true
  po : PySem.W.plainOver K C = true
  sa : PySem.W.findIn K (.ref C) "__setattr__" = some (some (.builtin "object.__setattr__"))
theorem Cls.get {K : PySem.W.Frag} {C : Addr} (c : Cls K C) (f : Str) : PySem.W.plainGet K C f = true := c.pg

structure Con (K : PySem.W.Frag) (C : Addr) (f : Str) (v : V) (u : Value) : Prop where
  at_ : PySem.W.findIn K (.ref C) f = some (some u)
  rel : RelV v u
  get : PySem.W.specialIn K u "__get__" = some none
  cp : PySem.W.copiedNames.contains f = false

structure Meth (K : PySem.W.Frag) (C : Addr) (m : Str) (f : Addr) : Prop where
  at_ : PySem.W.findIn K (.ref C) m = some (some (.ref f))
  fn : PySem.W.isFn K (.ref f) = true
  kp : PySem.W.keepIn K (.ref f) = true

section
variable {X : Cx} {pins : List (Addr × Obj)} {σ : St} {H : Hp} {s : Shared} {a C dx : Addr} {fs : List (Str × V)} {f : Str} {v : V} {A : Around} {E : Value → Shared → Prop}

theorem Inv.made (I : Inv X pins σ H s) : Inv X pins σ (upd (upd H s.heap.objs.size (.own (s.heap.objs.size + 1))) (s.heap.objs.size + 1) (.ins C s.heap.objs.size []))
    { s with heap := (s.heap.push PySem.W.emptyDict).push (PySem.W.instObj C s.heap.objs.size) } := by
  have e1 : (s.heap.push PySem.W.emptyDict).get? s.heap.objs.size = some PySem.W.emptyDict := Heap.get?_push_size s.heap rfl
  have e2 : ((s.heap.push PySem.W.emptyDict).push (PySem.W.instObj C s.heap.objs.size)).get? (s.heap.objs.size + 1) = some (PySem.W.instObj C s.heap.objs.size) := by
    have := Heap.get?_push_size (s.heap.push PySem.W.emptyDict) (o := PySem.W.instObj C s.heap.objs.size) rfl
    rwa [Heap.size_push] at this
  have e3 : (s.heap.push PySem.W.emptyDict).Ns s.heap.objs.size (fun _ => none) := ⟨PySem.W.emptyDict, #[], _, e1, rfl, (fun e he => absurd he (by simp)), fun _ => rfl⟩
  have I1 := I.laid (a := s.heap.objs.size) (o := .own (s.heap.objs.size + 1)) (h' := s.heap.push PySem.W.emptyDict) (t' := s.toks) (fun b u q => Heap.get?_push_of_some _ q) (Nat.le_refl _) ⟨_, e1⟩
  refine I1.laid (a := s.heap.objs.size + 1) (o := .ins C s.heap.objs.size []) (t' := s.toks) (fun b u q => Heap.get?_push_of_some _ q) (Nat.le_of_eq (Heap.size_push _ _)) ?_
  have ne : s.heap.objs.size ≠ s.heap.objs.size + 1 := Nat.ne_of_lt (Nat.lt_succ_self _)
  refine ⟨by rw [upd_ne ne, upd_same], Nat.zero_le _, ne, e2, fun _ => none, (Heap.Ns1.of_empty e3).at fun o q => Heap.get?_push_of_some _ q, fun _ => True.intro, fun y hy => absurd rfl hy⟩

end

section
variable {X : Cx} {o e value : Expr} {f : Str} {pos pos' tpos : Pos} {ta tv : TE}
end

section
variable {X : Cx} {pins : List (Addr × Obj)} {σ : St} {H : Hp} {s : Shared} {A : Around} {E : Value → Shared → Prop} {Q : Value → Shared → Prop} {c : Value} {b : Bool}

inductive TyOf (K : PySem.W.Frag) (H : Hp) : V → Value → Prop where
  | non : TyOf K H .non (.type "NoneType")
  | bl (x : Bool) : TyOf K H (.bl x) (.type "bool")
  | int (i : Int) : TyOf K H (.int i) (.type "int")
  | str (x : Str) : TyOf K H (.str x) (.type "str")
  | flt (x : UInt64) : TyOf K H (.flt x) (.type "float")
  | lst {a : Addr} {xs : List V} (e : H a = some (.lst xs)) : TyOf K H (.ref a) (.type "list")
  | frz {a : Addr} {o : Obj} {xs : List V} (e : H a = some (.frz o (.lst xs))) : TyOf K H (.ref a) (.type "list")
  | tup {a : Addr} {xs : List V} (e : H a = some (.tup xs)) : TyOf K H (.ref a) (.type "tuple")
  | dK {a : Addr} {kvs : List (Key × V)} (e : H a = some (.dK kvs)) : TyOf K H (.ref a) (.type "dict")
  | dT {a : Addr} {kvs : List (List Key × V)} (e : H a = some (.dT kvs)) : TyOf K H (.ref a) (.type "dict")
  | ins {a C dx : Addr} {fs : List (Str × V)} (e : H a = some (.ins C dx fs)) (cl : Cls K C) (ha : PySem.W.findIn K (.ref C) "__class__" = some (some (.builtin "object.__class__")))
      (hn : PySem.W.specialIn K (.builtin "object.__class__") "__get__" = some (some (.builtin "getset_descriptor.__get__"))) (htk : PySem.W.takesIn K (.builtin "object.__class__") = some true)
      (hm : PySem.W.mroIn K C (.type "object") = some true) : TyOf K H (.ref a) (.ref C)
theorem isinst_ok {x : V} {u t : Value} (I : Inv X pins σ H s) (rx : RelV x u) (ty : TyOf X.K H x t) (e : PySem.W.kitOne X.K t c = some b) (h : ∀ tk, Q (.bool b) { s with toks := tk }) :
    wpAny (model X.prog X.w) A (call (.builtin "isinstance") [u, c]) Q E s := by
  cases ty with
  | non => cases (show u = Value.none from rx); exact PySem.W.kia_one PySem.W.kitx_none I.kIn True.intro e (fun z => nomatch z) h
  | bl y => cases (show u = Value.bool y from rx); exact PySem.W.kia_one PySem.W.kitx_bool I.kIn True.intro e (fun z => nomatch z) h
  | int i => obtain ⟨t, q⟩ := (show ∃ t, u = Value.int i t from rx); cases q; exact PySem.W.kia_one PySem.W.kitx_int I.kIn True.intro e (fun z => nomatch z) h
  | str y => obtain ⟨t, q⟩ := (show ∃ t, u = Value.str y t from rx); cases q; exact PySem.W.kia_one PySem.W.kitx_str I.kIn True.intro e (fun z => nomatch z) h
  | flt y => obtain ⟨t, q⟩ := (show ∃ t, u = Value.float y t from rx); cases q; exact PySem.W.kia_one PySem.W.kitx_float I.kIn True.intro e (fun z => nomatch z) h
  | @lst a xs ea =>
    cases (show u = Value.ref a from rx)
    obtain ⟨_, _, n, _, h1⟩ := (show ObjOk X.prog X.w H s.heap a (.lst xs) from I.hok a _ ea)
    exact PySem.W.kia_one PySem.W.kitx_list I.kIn ⟨_, h1, rfl⟩ e (fun z => nomatch z) h
  | @frz a ob xs ea =>
    cases (show u = Value.ref a from rx)
    obtain ⟨_, _, _, n, _, h1⟩ := (show ObjOk X.prog X.w H s.heap a (.frz ob (.lst xs)) from I.hok a _ ea)
    exact PySem.W.kia_one PySem.W.kitx_list I.kIn ⟨_, h1, rfl⟩ e (fun z => nomatch z) h
  | @tup a xs ea =>
    cases (show u = Value.ref a from rx)
    obtain ⟨_, _, _, p⟩ := (show ObjOk X.prog X.w H s.heap a (.tup xs) from I.hok a _ ea)
    obtain ⟨o, h1, h2, _⟩ := p
    exact PySem.W.kia_one PySem.W.kitx_tuple I.kIn ⟨o, h1, h2⟩ e (fun z => nomatch z) h
  | @dK a kvs ea =>
    cases (show u = Value.ref a from rx)
    obtain ⟨_, _, vs, _, p⟩ := (show ObjOk X.prog X.w H s.heap a (.dK kvs) from I.hok a _ ea)
    obtain ⟨o, es, ep, h1, h2, _⟩ := p
    exact PySem.W.kia_one PySem.W.kitx_dict I.kIn ⟨o, h1, h2.1⟩ e (fun z => nomatch z) h
  | @dT a kvs ea =>
    cases (show u = Value.ref a from rx)
    obtain ⟨_, _, xs, _, o, es, ep, h1, h2, _⟩ := (show ObjOk X.prog X.w H s.heap a (.dT kvs) from I.hok a _ ea)
    exact PySem.W.kia_one PySem.W.kitx_dict I.kIn ⟨o, h1, h2.1⟩ e (fun z => nomatch z) h
  | @ins a C dx fs ea cl ha hn htk hm =>
    cases (show u = Value.ref a from rx)
    obtain ⟨mA, O, _⟩ := ins_get I.hok ea
    obtain ⟨od, J, _⟩ := O.look
    exact PySem.W.kia_one (PySem.W.kitx_own (cl.get _) cl.hd ha hn htk hm) I.kIn J e (fun z => nomatch z) h
end
end L2

namespace L2
open PySem PySem.Spec PyProof.Rows

structure Room (k : Nat) (A : Around) : Prop where
  hd : A.handled = none
  dp : A.depth + 3 * k + 5 < recursionLimit
  un : A.units + 16 * k + 200 < cLine
  gd : A.guards = some []
theorem Room.mono {j k : Nat} {A : Around} (r : Room k A) (h : j ≤ k) : Room j A := ⟨r.hd, by have := r.dp; omega, by have := r.un; omega, r.gd⟩
theorem Room.deeper {k : Nat} {A : Around} (r : Room (k + 1) A) (env : Env) : Room k (A.deeper env) :=
  ⟨r.hd, by have := r.dp; show A.depth + 1 + 3 * k + 5 < _; omega, by have := r.un; show A.units + 3 + 16 * k + 200 < _; omega, r.gd⟩
theorem Room.in1 {k : Nat} {A : Around} (r : Room (k + 1) A) : Room k A.in1 :=
  ⟨r.hd, by have := r.dp; show A.depth + 3 * k + 5 < _; omega, by have := r.un; show A.units + 1 + 16 * k + 200 < _; omega, r.gd⟩
theorem Room.depth {k : Nat} {A : Around} (r : Room k A) : A.depth < recursionLimit := by have := r.dp; omega
theorem Room.units {k : Nat} {A : Around} (r : Room k A) : A.units + 64 < cLine := by have := r.un; omega
def tNil : TA := fun _ H Q => Q [] H
def tCons (ta : TE) (tr : TA) : TA := fun σ H Q => ta σ H fun x H1 => tr σ H1 fun xs H2 => Q (x :: xs) H2
section
variable {X : Cx} {e : Expr} {es : List Expr} {te : TE} {t : TA} {pos : Pos}
theorem pa_nil : PA X [] tNil := fun _ _ _ _ H Q I h => Calls.spliced_nil ⟨[], H, I, .nil, h⟩
theorem pa_cons (ha : PE X e te) (hr : PA X es t) (hs : starEach (e :: es) X.env = (false, eval e X.env) :: starEach es X.env := by rfl) : PA X (e :: es) (tCons te t) := by
  intro pos pins s σ H Q I h
  rw [hs]
  show wpAny _ _ (spliced ((false, eval e X.env) :: backTo pos (starEach es X.env))) _ _ s
  refine Calls.spliced_cons (thn (ha pins s σ H _ I h) fun u s1 ⟨x, H1, I1, r1, q1⟩ => ?_)
  exact thn (hr pos pins s1 σ H1 _ I1 q1) fun us s2 ⟨xs, H2, I2, r2, q2⟩ => ⟨x :: xs, H2, I2, .cons r1 r2, q2⟩

def tTup (t : TA) : TE := fun σ H Q => t σ H fun xs H1 => xs.length ≤ sizeLine ∧ ∀ p, H1 p = none → Q (.ref p) (upd H1 p (.tup xs))
def tLst (t : TA) : TE := fun σ H Q => t σ H fun xs H1 => xs.length ≤ sizeLine ∧ ∀ p, H1 p = none → Q (.ref p) (upd H1 p (.lst xs))
theorem pe_tup {x1} (h : PA X es t) : PE X (.Tuple es x1 pos) (tTup t) := by
  intro pins s σ H Q I hq
  refine wpAny_Tuple_spliced (thn (h pos pins s σ H _ I hq) fun us s1 ⟨xs, H1, I1, r, z, q⟩ => ⟨by rw [← r.length]; exact z, ?_⟩)
  have hf : H1 s1.heap.objs.size = none := I1.hok.fresh (Nat.le_refl _)
  refine ⟨.ref s1.heap.objs.size, upd H1 s1.heap.objs.size (.tup xs), I1.laid (t' := s1.toks) (fun b u e => Heap.get?_push_of_some _ e) (Nat.le_refl _) ?_, rfl, q _ hf⟩
  exact ⟨z, us, r, ⟨_, Heap.get?_push_size _ rfl, rfl, _, rfl⟩⟩
theorem pe_lst (h : PA X es t) : PE X (.List es pos) (tLst t) := by
  intro pins s σ H Q I hq
  refine wpAny_List_spliced (thn (h pos pins s σ H _ I hq) fun us s1 ⟨xs, H1, I1, r, z, q⟩ => ⟨by rw [← r.length]; exact z, ?_⟩)
  have hf : H1 s1.heap.objs.size = none := I1.hok.fresh (Nat.le_refl _)
  refine ⟨.ref s1.heap.objs.size, upd H1 s1.heap.objs.size (.lst xs), I1.laid (t' := s1.toks) (fun b u e => Heap.get?_push_of_some _ e) (Nat.le_refl _) ?_, rfl, q _ hf⟩
  exact ⟨z, us, 0, r, Heap.get?_push_size _ rfl⟩
end

abbrev Sp := List V → Hp → VK → XK → Prop
abbrev CXT := List Env → Hp → Shared → XK → Value → Shared → Prop


structure Env0 (P : Program) (w : World) (K : PySem.W.Frag) (mg : Str → Option Value) (base : Heap) (A : Around) (outer : List Env) (s : Shared) (H : Hp) : Prop where
  frames : A.frames = some outer
  mod : Mod K mg base
  bs : ∀ b o, base.get? b = some o → s.heap.get? b = some o ∧ H b = none
  bsz : base.objs.size ≤ s.heap.objs.size
  funs : s.heap.FunFrames base outer
  frf : ∀ b ∈ frs outer, H b = none
  hok : HOk P w H s.heap
  bare : AllBare s.gens
  sy : H sysModules = none
def CE (outer : List Env) (P : Program) (w : World) (H : Hp) (s : Shared) (Q : VK) (u : Value) (s' : Shared) : Prop :=
  ∃ v H', s'.os = s.os ∧ AllBare s'.gens ∧ Un (frs outer) [] H H' s.heap s'.heap ∧ HOk P w H' s'.heap ∧ RelV v u ∧ Q v H'
def CR (CX : CXT) (outer : List Env) (P : Program) (w : World) (H : Hp) (s : Shared) (Q : VK) (E : XK) (r : Result) (s' : Shared) : Prop :=
  match r with
  | .ok (.ret u) => CE outer P w H s Q u s'
  | .ok _ => False
  | .error e => CX outer H s E e s'
structure FnOk (P : Program) (w : World) (K : PySem.W.Frag) (mg : Str → Option Value) (base : Heap) (CX : CXT) (k : Nat) (f : Addr) (fd : FuncData) (ps : List Str) (sp : Sp) : Prop where
  len : ∀ vs H Q E, sp vs H Q E → vs.length = ps.length
  run : ∀ (A : Around) (outer : List Env) (s : Shared) (H : Hp) (args : Args) (us : List Value) (vs : List V) (Q : VK) (E : XK), Room k A → Env0 P w K mg base A outer s H → BindsTo s fd args (ps.zip us) → Vals vs us → sp vs H Q E →
    codeAny (model P w) A (.call (.ref f) args) (CR CX outer P w H s Q E) s
theorem FnOk.mono {P : Program} {w : World} {K : PySem.W.Frag} {mg : Str → Option Value} {base : Heap} {CX : CXT} {j k : Nat} {f : Addr} {fd : FuncData} {ps : List Str} {sp : Sp} (F : FnOk P w K mg base CX j f fd ps sp) (h : j ≤ k) :
    FnOk P w K mg base CX k f fd ps sp := ⟨F.len, fun A outer s H args us vs Q E hr => F.run A outer s H args us vs Q E (hr.mono h)⟩
theorem FnOk.imp {P : Program} {w : World} {K : PySem.W.Frag} {mg : Str → Option Value} {base : Heap} {CX : CXT} {k : Nat} {f : Addr} {fd : FuncData} {ps : List Str} {sp sp' : Sp} (F : FnOk P w K mg base CX k f fd ps sp)
    (h : ∀ vs H Q E, sp' vs H Q E → sp vs H Q E) : FnOk P w K mg base CX k f fd ps sp' :=
  ⟨fun vs H Q E q => F.len vs H Q E (h _ _ _ _ q), fun A outer s H args us vs Q E hr he hb hv hs => F.run A outer s H args us vs Q E hr he hb hv (h _ _ _ _ hs)⟩

theorem Env0.in1 {P : Program} {w : World} {K : PySem.W.Frag} {mg : Str → Option Value} {base : Heap} {A : Around} {outer : List Env} {s : Shared} {H : Hp} (e : Env0 P w K mg base A outer s H) :
    Env0 P w K mg base A.in1 outer s H := ⟨e.frames, e.mod, e.bs, e.bsz, e.funs, e.frf, e.hok, e.bare, e.sy⟩

section
variable {X : Cx} {pins : List (Addr × Obj)} {σ : St} {H : Hp} {s s' : Shared}
theorem Inv.env0 (I : Inv X pins σ H s) : Env0 X.prog X.w X.K X.mg X.base X.A X.stack s H :=
  ⟨I.ok.frames, I.ok.mod, I.bs, Nat.le_trans I.ok.bsz I.sz, I.stack, I.stkFree, I.hok, I.bare, I.sysN⟩
theorem Inv.after {Q : VK} {u : Value} (I : Inv X pins σ H s) (h : CE X.stack X.prog X.w H s Q u s') : EP X pins σ Q u s' := by
  obtain ⟨v, H', os, bare, un, hok, r, q⟩ := h
  obtain ⟨hh, g, d, t, os'⟩ := s'
  obtain rfl : os' = s.os := os
  exact ⟨v, H', I.call (h' := hh) (g' := g) (d' := d) (t' := t) (ch := []) un hok bare (fun b z => absurd z (by simp)), r, q⟩
end

def tCall (sp : Sp) (dvs : List V) (E : XK) (t : TA) : TE := fun σ H Q => t σ H fun vs H1 => sp (vs ++ dvs) H1 Q E
def Binds (K : PySem.W.Frag) (fd : FuncData) (ps : List Str) (ds : List Value) : Prop :=
  ∀ (s : Shared) (us : List Value), K.In s.heap → (us ++ ds).length = ps.length → BindsTo s fd ⟨us, []⟩ (ps.zip (us ++ ds))
theorem Binds.all {K : PySem.W.Frag} {fd : FuncData} {ps : List Str} (h : ∀ us : List Value, us.length = ps.length → bindArgs fd ⟨us, []⟩ = pure (ps.zip us)) : Binds K fd ps [] := fun s us _ hl => by
  rw [List.append_nil] at hl ⊢
  exact .of_eq (h us hl)

def Passes (CX : CXT) (X : Cx) (E : XK) : Prop := ∀ (pins : List (Addr × Obj)) (σ : St) (H : Hp) (s : Shared) (e : Value) (s' : Shared), Inv X pins σ H s → CX X.stack H s E e s' → X.xe e s'

section
variable {X : Cx} {CX : CXT} {k : Nat} {f C : Addr} {fd : FuncData} {ps : List Str} {sp : Sp} {dvs : List V} {ds : List Value} {E : XK} {x m : Str} {p pos apos : Pos} {e o : Expr} {es : List Expr} {ta : TE} {t : TA}

theorem run_fn {pins : List (Addr × Obj)} {σ : St} {H : Hp} {s : Shared} {Q : VK} {us : List Value} {vs : List V} (F : FnOk X.prog X.w X.K X.mg X.base CX k f fd ps sp) (hr : Room k X.A) (hb : Binds X.K fd ps ds) (hd : Vals dvs ds) (hx : Passes CX X E)
    (I : Inv X pins σ H s) (r : Vals vs us) (h : sp (vs ++ dvs) H Q E) : wpAny (model X.prog X.w) X.A (call (.ref f) us) (EP X pins σ Q) X.xe s := by
  have r2 : Vals (vs ++ dvs) (us ++ ds) := r.append hd
  have hl : (us ++ ds).length = ps.length := by rw [← r2.length]; exact F.len _ _ _ _ h
  refine wpAny_call (codeAny_mono (F.run X.A X.stack s H ⟨us, []⟩ (us ++ ds) (vs ++ dvs) Q E hr I.env0 (hb s us I.kIn hl) r2 h) fun r s' hq => ?_)
  cases r with
  | error e => exact hx pins σ H s e s' I hq
  | ok fl =>
    cases fl with
    | ret u => exact I.after hq
    | next => exact False.elim hq
    | brk => exact False.elim hq
    | cont => exact False.elim hq

theorem pe_call (F : FnOk X.prog X.w X.K X.mg X.base CX k f fd ps sp) (hr : Room k X.A) (hg : Gl X x) (hm : X.mg x = some (.ref f)) (hk : PySem.W.keepIn X.K (.ref f) = true) (hb : Binds X.K fd ps ds) (hd : Vals dvs ds) (hx : Passes CX X E)
    (ha : PA X (e :: es) t) (hdb : (x == ("__debug__" : Str)) = false := by decide) (he : starEach (e :: es) X.env = (false, eval e X.env) :: starEach es X.env := by rfl) (hpl : (backTo pos (starEach es X.env)).any (·.1) = false := by rfl) :
    PE X (.Call (.Name x p) (e :: es) [] pos) (tCall sp dvs E t) := by
  intro pins s σ H Q I h
  refine wpAny_Call_Name_kw (ld_glob I hg hm ?_ hdb)
  refine PySem.W.callWith_K (h₀ := X.base) I.ok.mod.kin hk (thn (ha pos pins s σ H _ I h) fun us s1 ⟨vs, H1, I1, r, q⟩ => ⟨I1.kIn, ?_⟩) he hpl
  exact run_fn F hr hb hd hx I1 r q

structure Mk (K : PySem.W.Frag) (C f : Addr) : Prop where
  makes : PySem.W.makesIn K C = true
  init : PySem.W.findIn K (.ref C) "__init__" = some (some (.ref f))
  fn : PySem.W.isFn K (.ref f) = true
  kp : PySem.W.keepIn K (.ref C) = true

end

section
variable {X : Cx} {CX : CXT} {k : Nat} {f C : Addr} {fd : FuncData} {ps ks : List Str} {sp : Sp} {E : XK} {x m : Str} {p pos apos kpos : Pos} {e o : Expr} {es : List Expr} {kws : List Keyword} {te ta : TE} {t tk : TA} {nm : Option Str}

structure KBinds (K : PySem.W.Frag) (fd : FuncData) (ps ks : List Str) (g : List Value → List Value → List Value) (gV : List V → List V → List V) : Prop where
  to : ∀ (s : Shared) (us ws : List Value), K.In s.heap → (g us ws).length = ps.length → BindsTo s fd ⟨us, ks.zip ws⟩ (ps.zip (g us ws))
  rel : ∀ {vs : List V} {us : List Value} {zs : List V} {ws : List Value}, Vals vs us → Vals zs ws → Vals (gV vs zs) (g us ws)
variable {g : List Value → List Value → List Value} {gV : List V → List V → List V}
end


structure FnScope (N P : List Str) (sc : Scope) : Prop where
  kind : sc.kind = .function
  co : sc.isCoroutine = false
  gen : sc.isGenerator = false
  nd : N.Nodup
  pre : N.take P.length = P
  par : ∀ x ∈ P, sc.names.lookup x = some .local ∨ sc.names.lookup x = some .cell
  nofree : ∀ y ∈ sc.names, y.2 ≠ .free

theorem bindL_out {kindOf : Str → Option NameKind} {x : Str} : ∀ {binds : List (Str × Value)} {m : Str → Option Value}, (∀ v, (x, v) ∉ binds) → bindL kindOf binds m x = m x
  | [], _, _ => rfl
  | (n, v) :: r, m, h => by
    unfold bindL
    rw [bindL_out fun w hw => h w (List.mem_cons_of_mem _ hw)]
    split
    · have : x ≠ n := by rintro rfl; exact h v List.mem_cons_self
      simp [this]
    · rfl
theorem bindC_out {kindOf : Str → Option NameKind} {x : Str} : ∀ {binds : List (Str × Value)} {m : Str → Option Value}, (∀ v, (x, v) ∉ binds) → bindC kindOf binds m x = m x
  | [], _, _ => rfl
  | (n, v) :: r, m, h => by
    unfold bindC
    rw [bindC_out fun w hw => h w (List.mem_cons_of_mem _ hw)]
    split
    · rfl
    · have : x ≠ n := by rintro rfl; exact h v List.mem_cons_self
      simp [this]
theorem bindL_get {kindOf : Str → Option NameKind} {x : Str} {v : Value} : ∀ {P : List Str} {vs : List Value} {i : Nat} {m : Str → Option Value}, P.Nodup → P[i]? = some x → vs[i]? = some v → kindOf x = some .local →
    bindL kindOf (P.zip vs) m x = some v
  | [], _, _, _, _, h, _, _ => by simp at h
  | _ :: _, [], _, _, _, _, h, _ => by simp at h
  | p :: P, w :: vs, 0, m, nd, h1, h2, hk => by
    simp at h1 h2; subst h1; subst h2
    show bindL kindOf ((p, w) :: P.zip vs) m p = _
    unfold bindL
    rw [bindL_out fun v hv => (List.nodup_cons.mp nd).1 (List.of_mem_zip hv).1, if_pos hk]
    simp
  | p :: P, w :: vs, i + 1, m, nd, h1, h2, hk => by
    show bindL kindOf ((p, w) :: P.zip vs) m x = _
    unfold bindL
    exact bindL_get (i := i) (List.nodup_cons.mp nd).2 (by simpa using h1) (by simpa using h2) hk
theorem bindC_get {kindOf : Str → Option NameKind} {x : Str} {v : Value} : ∀ {P : List Str} {vs : List Value} {i : Nat} {m : Str → Option Value}, P.Nodup → P[i]? = some x → vs[i]? = some v → kindOf x ≠ some .local →
    bindC kindOf (P.zip vs) m x = some v
  | [], _, _, _, _, h, _, _ => by simp at h
  | _ :: _, [], _, _, _, _, h, _ => by simp at h
  | p :: P, w :: vs, 0, m, nd, h1, h2, hk => by
    simp at h1 h2; subst h1; subst h2
    show bindC kindOf ((p, w) :: P.zip vs) m p = _
    unfold bindC
    rw [bindC_out fun v hv => (List.nodup_cons.mp nd).1 (List.of_mem_zip hv).1, if_neg hk]
    simp
  | p :: P, w :: vs, i + 1, m, nd, h1, h2, hk => by
    show bindC kindOf ((p, w) :: P.zip vs) m x = _
    unfold bindC
    exact bindC_get (i := i) (List.nodup_cons.mp nd).2 (by simpa using h1) (by simpa using h2) hk

def start (N : List Str) (vs : List V) : St := vs.map some ++ List.replicate (N.length - vs.length) none

def cxOf (CX : CXT) (P : Program) (w : World) (K : PySem.W.Frag) (mg : Str → Option Value) (base : Heap) (N : List Str) (qual : Str) (scope : Scope) (f : Addr) (cd : Value) (A : Around) (outer : List Env) (s : Shared) (H : Hp) (E : XK) : Cx where
  prog := P
  w := w
  K := K
  mg := mg
  base := base
  A := A.deeper (envOfC qual scope s.heap.objs.size f cd)
  N := N
  s₀ := s
  H₀ := H
  env := envOfC qual scope s.heap.objs.size f cd
  outer := outer
  stack := envOfC qual scope s.heap.objs.size f cd :: outer
  ex := []
  calm := true
  fn := fun _ => true
  pn := []
  xe := fun e s' => wpAny (model P w) (A.deeper (envOfC qual scope s.heap.objs.size f cd)) (leaving (envOfC qual scope s.heap.objs.size f cd) e) (fun _ s'' => CX outer H s E e s'') (fun e' s'' => CX outer H s E e' s'') s'

theorem cell_has {sc : Scope} {n : Nat} {x : Str} (h : sc.names.lookup x = some .cell) : ∃ c, (cellsFrom n sc.names []).lookup x = some c := by
  have q := PySem.W.cellsFrom_some sc.names n [] (.inl h)
  exact Option.isSome_iff_exists.mp q

theorem inv_start {CX : CXT} {P : Program} {w : World} {K : PySem.W.Frag} {mg : Str → Option Value} {base : Heap} {N ps : List Str} {qual : Str} {scope : Scope} {f : Addr} {cd : Value} {A : Around} {outer : List Env} {s s1 : Shared} {H : Hp} {E : XK} {us : List Value} {vs : List V}
    (S : FnScope N ps scope) (hd : A.handled = none) (e0 : Env0 P w K mg base A outer s H) (hl : vs.length = ps.length) (r : Vals vs us)
    (x : InCallC s s.heap.objs.size (bindL (envOfC qual scope s.heap.objs.size f cd).kindOf (ps.zip us) fun _ => none) (cellsFrom (s.heap.objs.size + 1) scope.names []) (bindC (envOfC qual scope s.heap.objs.size f cd).kindOf (ps.zip us) fun _ => none) s1) :
    Inv (cxOf CX P w K mg base N qual scope f cd A outer s H E) [] (start N vs) H s1 := by
  have hpl : ps.length ≤ N.length := by have := congrArg List.length S.pre; rw [List.length_take] at this; omega
  obtain ⟨h1, tk, rfl, hk⟩ := x.done
  have noA : ∀ b : Addr, b ∉ (cxOf CX P w K mg base N qual scope f cd A outer s H E).ex := fun b z => absurd (show b ∈ ([] : List Addr) from z) (by simp)
  refine ⟨⟨e0.mod, S.kind, rfl, rfl, Nat.le_refl _, fun y z c h1 h2 => ?_, fun y hy => ?_, fun y c _ h => ?_, fun _ => hd, Around.frames_deeper e0.frames, .inr ⟨rfl, rfl⟩, fun b z => absurd z (noA b), e0.bs, e0.bsz, fun b _ _ => noA b, fun b z => absurd z (noA b), e0.funs, e0.frf, e0.sy⟩,
    rfl, e0.bare, Un.kept hk, ⟨_, x.toInCall.ns, fun i y v h1 h2 h3 => ?_⟩, fun y c h => ⟨_, x.cell y c h⟩, e0.hok.fresh (Nat.le_refl _), fun y c h => ?_, fun p hp => absurd (show p ∈ ([] : List (Addr × Obj)) from hp) (by simp), e0.hok.kept hk, ?_⟩
  · exact name_of_addr x.apart (PySem.mem_of_lookup h1) (PySem.mem_of_lookup h2)
  · have hy : scope.names.lookup y = some .cell ∨ scope.names.lookup y = some .free := hy
    rcases hy with hy | hy
    · exact cell_has hy
    · exact absurd rfl (S.nofree _ (PySem.mem_of_lookup hy))
  · exact Nat.le_of_lt (x.above y c (PySem.mem_of_lookup h))
  · have hi : i < vs.length := by
      unfold start at h2
      by_cases hi : i < vs.length
      · exact hi
      · rw [List.getElem?_append_right (by simpa using hi)] at h2
        rw [List.getElem?_replicate] at h2
        split at h2 <;> cases h2
    have ha : vs[i]? = some v := by
      unfold start at h2
      rw [List.getElem?_append_left (by simpa using hi), List.getElem?_map] at h2
      cases e : vs[i]? with
      | none => rw [e] at h2; cases h2
      | some a => rw [e] at h2; cases h2; rfl
    obtain ⟨u, hu, rv⟩ := r.get ha
    have hp : ps[i]? = some y := by
      rw [← S.pre, List.getElem?_take_of_lt (by omega)]; exact h1
    have ndP : ps.Nodup := by rw [← S.pre]; exact S.nd.sublist (List.take_sublist _ _)
    refine ⟨u, rv, ?_⟩
    rcases S.par y (List.mem_of_getElem? hp) with k | k
    · exact .inl ⟨k, bindL_get ndP hp hu k⟩
    · obtain ⟨c, e⟩ := cell_has (n := s.heap.objs.size + 1) k
      refine .inr ⟨.inl k, c, e, ?_⟩
      have q := x.cell y c e
      rw [bindC_get ndP hp hu (by show scope.names.lookup y ≠ _; rw [k]; decide)] at q
      exact q
  · exact e0.hok.fresh (Nat.le_of_lt (x.above y c (PySem.mem_of_lookup h)))
  · unfold start
    show _ = N.length
    rw [List.length_append, List.length_map, List.length_replicate]
    omega

theorem fn_of {CX : CXT} {P : Program} {w : World} {K : PySem.W.Frag} {mg : Str → Option Value} {base : Heap} {k : Nat} {f : Addr} {name qual : Str} {params : Arguments} {body : List Stmt} {scope : Scope} {dV kV doc pm cdv ct oc : Value} {an od : Option Addr}
    {osl : Array (Option Value)} {N ps : List Str} {sp : Sp} (lk : K.lookup f = some ⟨oc, od, .func (PySem.W.fnOf name qual params body scope dV kV doc pm an cdv ct), osl⟩) (hcd : PySem.W.codeIn K cdv qual = true) (S : FnScope N ps scope)
    (len : ∀ vs H Q E, sp vs H Q E → vs.length = ps.length)
    (hbody : ∀ (A : Around) (outer : List Env) (s : Shared) (H : Hp) (vs : List V) (Q : VK) (E : XK), Room k (A.deeper (envOfC qual scope s.heap.objs.size f cdv)) → sp vs H Q E →
      ∃ t, PSs (cxOf CX P w K mg base N qual scope f cdv A outer s H E) body t ∧ t { nx := fun _ H' => Q .non H', rt := Q } (start N vs) H) :
    FnOk P w K mg base CX (k + 1) f (PySem.W.fnOf name qual params body scope dV kV doc pm an cdv ct) ps sp := by
  refine ⟨len, fun A outer s H args us vs Q E hr e0 hb r hsp => ?_⟩
  have hl := len _ _ _ _ hsp
  have KX : K.In s.heap := e0.mod.kin.keeps fun b o e => (e0.bs b o e).1
  have lim : s.heap.NoLimit := e0.mod.nolimit.keeps fun b o e => (e0.bs b o e).1
  have hkind : ∀ y ∈ ps.zip us, scope.names.lookup y.1 = some .local ∨ (scope.names.lookup y.1 = some .cell ∧ ((cellsFrom (s.heap.objs.size + 1) scope.names []).lookup y.1).isSome = true) := fun ⟨n, v⟩ hy => by
    rcases S.par n (List.of_mem_zip hy).1 with q | q
    · exact .inl q
    · exact .inr ⟨q, PySem.W.cellsFrom_some _ _ _ (.inl q)⟩
  refine codeAny_call_function hr.depth (KX _ _ lk) rfl S.co S.gen rfl (PySem.W.codeRec_of KX hcd) (hb _ _ _ _ ?_)
  refine wpAny_newFunctionEnv_cells S.kind hkind fun env he s1 x => ?_
  subst he
  refine ⟨lim.keeps x.toInCall.keep, codeAny_func ?_⟩
  obtain ⟨t, ht, hq⟩ := hbody A outer s H vs Q E (hr.deeper _) hsp
  have I : Inv (cxOf CX P w K mg base N qual scope f cdv A outer s H E) [] (start N vs) H s1 := inv_start S hr.hd e0 hl r x
  refine wpAny_mono (ht [] s1 (start N vs) H _ I hq) (fun fl s' hs => ?_) fun e s' hs => hs
  have fin : ∀ {σ' : St} {H' : Hp} {v : V} {u : Value}, Inv (cxOf CX P w K mg base N qual scope f cdv A outer s H E) [] σ' H' s' → RelV v u → Q v H' → CE outer P w H s Q u s' :=
    fun {σ' H' v u} J rv q => ⟨v, H', J.os, J.bare, J.base, J.hok, rv, q⟩
  cases fl with
  | ret u =>
    obtain ⟨v, σ', H', J, rv, q⟩ := hs
    exact fin J rv q
  | next =>
    obtain ⟨σ', H', J, q⟩ := hs
    exact fin (v := V.non) (u := Value.none) J rfl q
  | brk =>
    obtain ⟨_, _, _, q⟩ := hs
    exact False.elim q
  | cont =>
    obtain ⟨_, _, _, q⟩ := hs
    exact False.elim q
end L2

namespace L2
open PySem PySem.Spec PyProof.Rows
section
variable {X : Cx} {x : Str} {p pos : Pos} {e : Expr} {es : List Expr} {t : TA} {id T : String} {r : List V → Hp → VK → Prop}

def tCB (r : List V → Hp → VK → Prop) (t : TA) : TE := fun σ H Q => t σ H fun vs H1 => r vs H1 Q
theorem pe_callB (hc : CallR X (.builtin id) r) (hg : Gl X x) (hm : X.mg x = none) (hv : bootBuiltins x = some (.builtin id)) (ha : PA X (e :: es) t) (hn : x ≠ "__name__" := by decide) (hdb : (x == ("__debug__" : Str)) = false := by decide)
    (he : starEach (e :: es) X.env = (false, eval e X.env) :: starEach es X.env := by rfl) (hpl : (backTo pos (starEach es X.env)).any (·.1) = false := by rfl) : PE X (.Call (.Name x p) (e :: es) [] pos) (tCB r t) := by
  intro pins s σ H Q I h
  refine wpAny_Call_Name_kw (ld_blt I hg hm hv ?_ hn hdb)
  exact PyProof.Rows.callWith_builtin1 (thn (ha pos pins s σ H _ I h) fun us s1 ⟨vs, H1, I1, r1, q1⟩ => hc pins s1 σ H1 vs us Q I1 r1 q1) he hpl
theorem pe_callTy (hc : CallR X (.type T) r) (hg : Gl X x) (hm : X.mg x = none) (hv : bootBuiltins x = some (.type T)) (ha : PA X (e :: es) t) (hn : x ≠ "__name__" := by decide) (hdb : (x == ("__debug__" : Str)) = false := by decide)
    (he : starEach (e :: es) X.env = (false, eval e X.env) :: starEach es X.env := by rfl) (hpl : (backTo pos (starEach es X.env)).any (·.1) = false := by rfl) : PE X (.Call (.Name x p) (e :: es) [] pos) (tCB r t) := by
  intro pins s σ H Q I h
  refine wpAny_Call_Name_kw (ld_blt I hg hm hv ?_ hn hdb)
  exact PyProof.Rows.callWith_type1 (thn (ha pos pins s σ H _ I h) fun us s1 ⟨vs, H1, I1, r1, q1⟩ => hc pins s1 σ H1 vs us Q I1 r1 q1) he hpl
end
end L2

namespace HT
open PySem PyProof.Rows

section
open PySem.SeqAt
open PySem.AutoSeq1 (wpAny_loadPart')
open PySem.MeetsSeq PySem.MeetsSeq2 PySem.MeetsSeq3

end

section
variable {prog : Program} {w : World} {A : Around} {E : Value → Shared → Prop} {s : Shared}

theorem cat_tup {t b : Addr} {vs ws : List Value} {Q : Value → Shared → Prop} (ht : IsTup s.heap t vs.toArray) (hb : IsTup s.heap b ws.toArray) (hv : vs ≠ [])
    (h1 : ws = [] → Q (.ref t) s) (h2 : ws ≠ [] → Q (.ref s.heap.objs.size) { s with heap := s.heap.push { cls := .type "tuple", data := .seq (vs ++ ws).toArray } })
    (hsz : vs.length + ws.length ≤ sizeLine) : wpAny (model prog w) A (binaryOp .Add (.ref t) (.ref b)) Q E s := by
  obtain ⟨⟨cls, dd, data, sl⟩, ho, hc, n, hd⟩ := id ht
  obtain ⟨⟨cls2, dd2, data2, sl2⟩, ho2, hc2, n2, hd2⟩ := id hb
  simp only at hc hd hc2 hd2
  subst hc hd hc2 hd2
  have e : vs.toArray ++ ws.toArray = (vs ++ ws).toArray := by simp
  by_cases hw : ws = []
  · exact concat_meets ⟨_, ho, rfl⟩ ⟨_, ho2, rfl⟩ noFill_tuple_add seq_tuple_add PySem.F.slot_tuple_add PySem.F.entry_tuple_add (PySem.F.args_tuple_add_2 _ _)
      (tuple_addW1 t b vs.toArray ws.toArray n n2 dd dd2 sl sl2 (by simpa using hv) (by simp [hw])) ⟨ho, ho2, h1 hw⟩
  · refine concat_meets ⟨_, ho, rfl⟩ ⟨_, ho2, rfl⟩ noFill_tuple_add seq_tuple_add PySem.F.slot_tuple_add PySem.F.entry_tuple_add (PySem.F.args_tuple_add_2 _ _)
      (tuple_addW2 t b vs.toArray ws.toArray n n2 dd dd2 sl sl2 (by simpa using hv) (by simpa using hw) (by rw [List.size_toArray, List.size_toArray]; exact hsz)) ⟨ho, ho2, ?_⟩
    rw [e]
    exact h2 hw

def sIx (n d : Nat) : Option Int → Nat
  | none => d
  | some v => if v < 0 then (v + (n : Int)).toNat else min v.toNat n
theorem sIx_le (n d : Nat) (hd : d ≤ n) (o : Option Int) : sIx n d o ≤ n := by
  cases o with
  | none => exact hd
  | some v =>
    show (if v < 0 then (v + (n : Int)).toNat else min v.toNat n) ≤ n
    by_cases hv : v < 0
    · rw [if_pos hv]; omega
    · rw [if_neg hv]; exact Nat.min_le_right _ _
theorem clip_eq (v : Int) (n d : Nat) : (if v < 0 then max (v + (n : Int)) 0 else min v (n : Int)) = ((sIx n d (some v) : Nat) : Int) := by
  show (if v < 0 then max (v + (n : Int)) 0 else min v (n : Int)) = (((if v < 0 then (v + (n : Int)).toNat else min v.toNat n) : Nat) : Int)
  by_cases hv : v < 0
  · simp only [if_pos hv]; omega
  · simp only [if_neg hv]; omega
theorem adjust_gen (lo hi : Option Int) (n : Nat) : Builtin.Slice.sliceAdjust lo hi 1 (n : Int) = (((sIx n 0 lo : Nat) : Int), ((sIx n n hi : Nat) : Int)) := by
  have h1 : ¬ ((1 : Int) < 0) := by omega
  unfold Builtin.Slice.sliceAdjust
  simp only [h1, if_false]
  refine Prod.ext ?_ ?_
  · cases lo with
    | none => rfl
    | some v => exact clip_eq v n 0
  · cases hi with
    | none => rfl
    | some v => exact clip_eq v n n
theorem places_gen (i j : Nat) : Builtin.Slice.slicePlaces (i : Int) (j : Int) 1 = j - i := by
  unfold Builtin.Slice.slicePlaces
  have h1 : (1 : Int) > 0 := by omega
  simp only [h1, if_true, Int.ediv_one]
  split <;> omega
theorem slicePart_ {v : Value} {o : Option Int} {Q : Option Int → Shared → Prop} (p : IsPart v o) (h : Q o s) : wpAny (model prog w) A (Builtin.Slice.slicePartIndex v) Q E s := by
  cases p with
  | none => exact slicePart_none h
  | int i t => exact slicePart_int h
theorem sliceApplied_gen {sl : Addr} {vl vu : Value} {lo hi : Option Int} {n : Nat} {Q : Int × Int × Nat → Shared → Prop} (hs : s.heap.IsSliceOf sl vl vu .none) (pl : IsPart vl lo) (pu : IsPart vu hi)
    (h : Q (((sIx n 0 lo : Nat) : Int), 1, sIx n n hi - sIx n 0 lo) s) : wpAny (model prog w) A (Builtin.Slice.sliceApplied (.ref sl) (pure (n : Int))) Q E s := by
  obtain ⟨os, hos, hcs, hds⟩ := id hs
  unfold Builtin.Slice.sliceApplied Builtin.Slice.sliceFields
  refine wpAny_bind (wpAny_bind (wpAny_field hos hds (x := vl) rfl (wpAny_bind (wpAny_field hos hds (x := vu) rfl (wpAny_bind (wpAny_field hos hds (x := .none) rfl (wpAny_pure ?_)))))))
  refine wpAny_bind (slicePart_none ?_)
  show wpAny _ _ (if ((1 : Int) == 0) = true then _ else _) _ _ s
  rw [if_neg (by decide)]
  refine wpAny_bind (slicePart_ pl (wpAny_bind (slicePart_ pu (wpAny_bind (wpAny_pure ?_)))))
  show wpAny _ _ (match Builtin.Slice.sliceAdjust lo hi 1 (n : Int) with | (lo, hi) => pure (lo, (1 : Int), Builtin.Slice.slicePlaces lo hi 1)) _ _ s
  rw [adjust_gen lo hi n]
  show wpAny _ _ (pure (((sIx n 0 lo : Nat) : Int), (1 : Int), Builtin.Slice.slicePlaces ((sIx n 0 lo : Nat) : Int) ((sIx n n hi : Nat) : Int) 1)) _ _ s
  rw [places_gen]
  exact wpAny_pure h
theorem pick_gen (xs : Array Value) (i k : Nat) : ((List.range k).filterMap fun (m : Nat) => xs[((i : Int) + (m : Int) * 1).toNat]?).toArray = ((xs.toList.drop i).take k).toArray := by
  have e : (fun (m : Nat) => xs[((i : Int) + (m : Int) * 1).toNat]?) = fun m => xs[i + m]? := by
    funext m
    have : ((i : Int) + (m : Int) * 1).toNat = i + m := by omega
    rw [this]
  rw [e]
  have := pick_run xs i k
  rw [List.filterMap_map] at this
  have e2 : ((fun x => xs[x]?) ∘ fun x => i + x) = fun m => xs[i + m]? := rfl
  rw [e2] at this
  rw [this]

theorem getItem_tuple_cut {t sl : Addr} {items : Array Value} {vl vu : Value} {lo hi : Option Int} {Q : Value → Shared → Prop} (ht : IsTup s.heap t items) (hs : s.heap.IsSliceOf sl vl vu .none) (pl : IsPart vl lo) (pu : IsPart vu hi)
    (hw : ¬ (sIx items.size 0 lo = 0 ∧ sIx items.size items.size hi = items.size))
    (h : Q (.ref s.heap.objs.size) { s with heap := s.heap.push { cls := .type "tuple", data := .seq ((items.toList.drop (sIx items.size 0 lo)).take (sIx items.size items.size hi - sIx items.size 0 lo)).toArray } })
    (hsz : items.size ≤ sizeLine) : wpAny (model prog w) A (getItem (.ref t) (.ref sl)) Q E s := by
  have htake : sizeOk (.seq ((items.toList.drop (sIx items.size 0 lo)).take (sIx items.size items.size hi - sIx items.size 0 lo)).toArray) := by
    show ((items.toList.drop (sIx items.size 0 lo)).take (sIx items.size items.size hi - sIx items.size 0 lo)).toArray.size ≤ sizeLine
    rw [List.size_toArray, List.length_take, List.length_drop, Array.length_toList]
    omega
  have hj : sIx items.size items.size hi ≤ items.size := sIx_le _ _ (Nat.le_refl _) hi
  obtain ⟨os, hos, hcs, hds⟩ := id hs
  have hTs : s.TypeIs (.ref sl) "slice" := ⟨os, hos, hcs⟩
  unfold getItem
  try with_reducible refine wpAny_holding ?_
  first | refine wpAny_bind (wpAny_pure ?_) | skip
  refine wpAny_bind (wpAny_sequenceKey ht.typeIs (by decide) ?_)
  refine wpAny_bind (wpAny_callSpecial?_slot (name := Str.ofString "__getitem__") ht.typeIs PyProof.Rows.slot_tuple_getitem
    (wpAny_call_entry PyProof.Rows.slot_tuple_getitem ht.typeIs entry_tuple_getitem ?_ (args_tuple_getitem _ _)))
  show wpAny _ _ (Builtin.Tuple.tupleItemsOf (.ref t) >>= _) _ _ s
  refine wpAny_bind (tupleItemsOf_ ht ?_)
  refine wpAny_bind (wpAny_typeOf hTs ?_)
  rw [if_pos (by decide)]
  refine wpAny_bind (sliceApplied_gen hs pl pu ?_)
  have hno : ¬ ((((sIx items.size 0 lo : Nat) : Int) == 0 && (1 : Int) == 1 && (sIx items.size items.size hi - sIx items.size 0 lo) == items.size) = true) := by
    intro q
    rw [Bool.and_eq_true, Bool.and_eq_true] at q
    have q1 : ((sIx items.size 0 lo : Nat) : Int) = 0 := eq_of_beq q.1.1
    have q2 : sIx items.size items.size hi - sIx items.size 0 lo = items.size := eq_of_beq q.2
    exact hw ⟨by omega, by omega⟩
  show wpAny _ _ (if (((sIx items.size 0 lo : Nat) : Int) == 0 && (1 : Int) == 1 && (sIx items.size items.size hi - sIx items.size 0 lo) == items.size) = true then _ else _) _ _ s
  rw [if_neg hno, pick_gen]
  first
    | exact wpAny_bind (m := Builtin.Tuple.tupleExact _) (wpAny_newObj_type (wpAny_pure ⟨_, rfl, wpAny_pure h⟩) htake)
    | exact wpAny_bind (m := Builtin.Tuple.tupleExact _) (wpAny_newObj_type (wpAny_bind (wpAny_pure (wpAny_pure ⟨_, rfl, wpAny_pure h⟩))) htake)
    | exact wpAny_bind (wpAny_bind (m := Builtin.Tuple.tupleExact _) (wpAny_newObj_type (wpAny_pure (wpAny_pure ⟨_, rfl, wpAny_pure h⟩)) htake))
    | exact wpAny_bind (wpAny_bind (m := Builtin.Tuple.tupleExact _) (wpAny_newObj_type (wpAny_pure ⟨_, rfl, wpAny_pure h⟩) htake))
end
end HT

namespace L2
open PySem PySem.Spec PyProof.Rows

abbrev TO := St → Hp → (Option Int → Hp → Prop) → Prop
def PO (X : Cx) (e : Option Expr) (t : TO) : Prop :=
  ∀ (pins : List (Addr × Obj)) (s : Shared) (σ : St) (H : Hp) (Q : Option Int → Hp → Prop), Inv X pins σ H s → t σ H Q →
    wpAny (model X.prog X.w) X.A (evalPart e X.env) (fun u s' => ∃ o H', Inv X pins σ H' s' ∧ IsPart u o ∧ Q o H') X.xe s
def tNoPart : TO := fun _ H Q => Q none H
def tPart (t : TE) : TO := fun σ H Q => t σ H fun x H1 => ∃ i, x = .int i ∧ Q (some i) H1

section
variable {X : Cx} {e : Expr} {te : TE} {lo hi : Option Expr} {tl th : TO} {pos p2 : Pos}

theorem po_none : PO X none tNoPart := by
  intro pins s σ H Q I h
  rw [evalPart_none]
  exact wpAny_pure ⟨none, H, I, .none, h⟩
theorem po_some (h : PE X e te) : PO X (some e) (tPart te) := by
  intro pins s σ H Q I hw
  rw [evalPart_some]
  refine thn (h pins s σ H _ I hw) fun u s1 ⟨x, H1, I1, r1, q1⟩ => ?_
  obtain ⟨i, rfl, q⟩ := q1
  obtain ⟨t, rfl⟩ := r1
  exact ⟨some i, H1, I1, .int i t, q⟩

def SlR (X : Cx) (r : V → Option Int → Option Int → Hp → VK → Prop) : Prop :=
  ∀ (pins : List (Addr × Obj)) (s : Shared) (σ : St) (H : Hp) (x : V) (v vl vu : Value) (lo hi : Option Int) (sl : Addr) (Q : VK), Inv X pins σ H s → RelV x v → s.heap.IsSliceOf sl vl vu .none → IsPart vl lo → IsPart vu hi → r x lo hi H Q →
    ∃ T id, typeLookup (.type T) "__getitem__" = pure (some (.builtin id)) ∧ s.TypeIs v T ∧ wpAny (model X.prog X.w) X.A (getItem v (.ref sl)) (EP X pins σ Q) X.xe s
theorem SlR.or {r r' : V → Option Int → Option Int → Hp → VK → Prop} (h : SlR X r) (h' : SlR X r') : SlR X (fun x lo hi H Q => r x lo hi H Q ∨ r' x lo hi H Q) := by
  intro pins s σ H x v vl vu lo hi sl Q I rx hs pl pu q
  rcases q with q | q
  · exact h pins s σ H x v vl vu lo hi sl Q I rx hs pl pu q
  · exact h' pins s σ H x v vl vu lo hi sl Q I rx hs pl pu q
def tSl (r : V → Option Int → Option Int → Hp → VK → Prop) (te : TE) (tl th : TO) : TE := fun σ H Q => te σ H fun x H1 => tl σ H1 fun l H2 => th σ H2 fun u H3 => r x l u H3 Q
theorem pe_slice {r : V → Option Int → Option Int → Hp → VK → Prop} (hr : SlR X r) (he : PE X e te) (hl : PO X lo tl) (hu : PO X hi th) : PE X (.Subscript e (.Slice lo hi none p2) pos) (tSl r te tl th) := by
  intro pins s σ H Q I h
  refine Subscript_ (thn (he pins s σ H _ I h) fun v s1 ⟨x, H1, I1, r1, q1⟩ => ?_)
  refine wpAny_Slice (thn (hl pins s1 σ H1 _ I1 q1) fun vl s2 ⟨l, H2, I2, pl, q2⟩ => thn (hu pins s2 σ H2 _ I2 q2) fun vu s3 ⟨u, H3, I3, pu, q3⟩ => ?_)
  rw [evalPart_none]
  refine wpAny_pure ?_
  have I4 : Inv X pins σ H3 { s3 with heap := s3.heap.push { cls := .type "slice", data := .fields #[vl, vu, .none] } } := I3.kept (t' := s3.toks) fun b ob q => Heap.get?_push_of_some _ q
  obtain ⟨T, id, hT, ht, hg⟩ := hr pins { s3 with heap := s3.heap.push { cls := .type "slice", data := .fields #[vl, vu, .none] } } σ H3 x v vl vu l u s3.heap.objs.size Q I4 r1 (Heap.IsSliceOf.new ..) pl pu q3
  show wpAny (model X.prog X.w) X.A (subscriptTail e (.Slice lo hi none p2) v (.ref s3.heap.objs.size)) (EP X pins σ Q) X.xe { s3 with heap := s3.heap.push { cls := .type "slice", data := .fields #[vl, vu, .none] } }
  exact tail_any (ops := [.ref s3.heap.objs.size, v]) ht hT hg (by with_unfolding_all rfl)

def cutV (xs : List V) (lo hi : Option Int) : List V := (xs.drop (HT.sIx xs.length 0 lo)).take (HT.sIx xs.length xs.length hi - HT.sIx xs.length 0 lo)
theorem cutV_length (xs : List V) (lo hi : Option Int) : (cutV xs lo hi).length ≤ xs.length := by
  unfold cutV
  rw [List.length_take, List.length_drop]
  omega
def rSlT (K : PySem.W.Frag) : V → Option Int → Option Int → Hp → VK → Prop := fun x lo hi H Q => ∃ a xs, x = .ref a ∧ SqT K H a xs ∧
  ¬ (HT.sIx xs.length 0 lo = 0 ∧ HT.sIx xs.length xs.length hi = xs.length) ∧ ∀ p, H p = none → Q (.ref p) (upd H p (.tup (cutV xs lo hi)))
theorem sl_tup : SlR X (rSlT X.K) := by
  intro pins s σ H x v vl vu lo hi sl Q I rx hs pl pu h
  obtain ⟨a, xs, rfl, hx, hw, q⟩ := h
  cases rx
  obtain ⟨its, r, ht, hz⟩ := I.tuple hx
  have hlen : its.toArray.size = xs.length := by rw [List.size_toArray]; exact r.length.symm
  refine ⟨"tuple", _, PyProof.Rows.slot_tuple_getitem.lookup, ht.typeIs, ?_⟩
  refine HT.getItem_tuple_cut ht hs pl pu (by rw [hlen]; exact hw) ?_ (by rw [hlen]; exact hz)
  rw [hlen]
  refine ⟨.ref s.heap.objs.size, _, I.laid (t' := s.toks) (o := .tup (cutV xs lo hi)) (fun b ob q => Heap.get?_push_of_some _ q) (Nat.le_refl _) ?_, rfl, q _ (I.hok.fresh (Nat.le_refl _))⟩
  exact ⟨Nat.le_trans (cutV_length xs lo hi) hz, _, (r.drop (HT.sIx xs.length 0 lo)).take (HT.sIx xs.length xs.length hi - HT.sIx xs.length 0 lo), IsTup.new _ _⟩

def rCatT (K : PySem.W.Frag) : R2 := fun x y H Q => ∃ a b xs ys, x = .ref a ∧ y = .ref b ∧ SqT K H a xs ∧ SqT K H b ys ∧ xs ≠ [] ∧ xs.length + ys.length ≤ sizeLine ∧
  (ys = [] → Q (.ref a) H) ∧ (ys ≠ [] → ∀ p, H p = none → Q (.ref p) (upd H p (.tup (xs ++ ys))))
theorem Vals.nil_iff {xs : List V} {us : List Value} (r : Vals xs us) : us = [] ↔ xs = [] := by
  cases r with
  | nil => simp
  | cons _ _ => simp
theorem op_catT : OpR X (binaryOp .Add) (rCatT X.K) := by
  intro pins s σ H x y v u Q I rx ry h
  obtain ⟨a, b, xs, ys, rfl, rfl, ha, hb, hx, hz, q1, q2⟩ := h
  cases rx
  cases ry
  obtain ⟨its, r1, p1, _⟩ := I.tuple ha
  obtain ⟨its2, r2, p2, _⟩ := I.tuple hb
  refine HT.cat_tup p1 p2 (fun z => hx (r1.nil_iff.mp z)) (fun z => ⟨.ref a, H, I, rfl, q1 (r2.nil_iff.mp z)⟩) (fun z => ?_) (by rw [← r1.length, ← r2.length]; exact hz)
  refine ⟨.ref s.heap.objs.size, _, I.laid (t' := s.toks) (o := .tup (xs ++ ys)) (fun b ob q => Heap.get?_push_of_some _ q) (Nat.le_refl _) ?_, rfl, q2 (fun w => z (r2.nil_iff.mpr w)) _ (I.hok.fresh (Nat.le_refl _))⟩
  exact ⟨by rw [List.length_append]; exact hz, _, r1.append r2, IsTup.new _ _⟩
end
end L2

namespace L2
open PySem PySem.Spec PyProof.Rows

def ixN (n : Nat) (i : Int) : Option Nat := if 0 ≤ i then (if i < n then some i.toNat else none) else if -(n : Int) ≤ i then some (i + n).toNat else none
def atI {α : Type} (xs : List α) (i : Int) : Option α := (ixN xs.length i).bind fun j => xs[j]?
theorem ixN_seq {n : Nat} {i : Int} {j : Nat} (h : ixN n i = some j) : seqIndex? i n = some j ∧ j < n ∧ -(n : Int) ≤ i ∧ i < n := by
  unfold ixN at h
  by_cases h0 : 0 ≤ i
  · rw [if_pos h0] at h
    by_cases h1 : i < n
    · rw [if_pos h1] at h
      have e : i.toNat = j := Option.some.inj h
      exact ⟨by rw [seqIndex_of h0 h1, e], by omega, by omega, h1⟩
    · rw [if_neg h1] at h; cases h
  · rw [if_neg h0] at h
    by_cases h1 : -(n : Int) ≤ i
    · rw [if_pos h1] at h
      have e : (i + n).toNat = j := Option.some.inj h
      exact ⟨by rw [seqIndex_neg (by omega) h1, e], by omega, h1, by omega⟩
    · rw [if_neg h1] at h; cases h
theorem atI_get {α : Type} {xs : List α} {i : Int} {v : α} (h : atI xs i = some v) : ∃ j, seqIndex? i xs.length = some j ∧ xs[j]? = some v ∧ j < xs.length ∧ -(xs.length : Int) ≤ i ∧ i < xs.length := by
  unfold atI at h
  cases e : ixN xs.length i with
  | none => rw [e] at h; cases h
  | some j =>
    rw [e] at h
    obtain ⟨h1, h2, h3, h4⟩ := ixN_seq e
    exact ⟨j, h1, h, h2, h3, h4⟩
theorem atI_nat {α : Type} {xs : List α} {j : Nat} {v : α} (h : xs[j]? = some v) : atI xs (j : Int) = some v := by
  have hj : j < xs.length := (List.getElem?_eq_some_iff.mp h).1
  have e : ixN xs.length (j : Int) = some j := by
    unfold ixN
    rw [if_pos (by omega), if_pos (by omega)]; simp
  unfold atI; rw [e]; exact h
theorem atI_last {α : Type} (xs : List α) (v : α) : atI (xs ++ [v]) (-1) = some v := by
  have hl : (xs ++ [v]).length = xs.length + 1 := by simp
  have e : ixN (xs ++ [v]).length (-1) = some xs.length := by
    unfold ixN
    rw [hl, if_neg (by decide), if_pos (by omega)]
    congr 1
    omega
  unfold atI
  rw [e]
  show (xs ++ [v])[xs.length]? = some v
  simp

def PlainIx (b : Expr) : Prop := ∀ o i, subscripted b false o i = operate [o, i] (getItem o i)
def IxR (X : Cx) (r : R2) : Prop :=
  ∀ (value slice : Expr) (pins : List (Addr × Obj)) (s : Shared) (σ : St) (H : Hp) (x y : V) (v u : Value) (Q : VK), Inv X pins σ H s → RelV x v → RelV y u → r x y H Q →
    subscripted slice false v u = operate [v, u] (getItem v u) → wpAny (model X.prog X.w) X.A (subscriptTail value slice v u) (EP X pins σ Q) X.xe s
def MtR (X : Cx) (id : String) (r : V → List V → Hp → VK → Prop) : Prop :=
  ∀ (pins : List (Addr × Obj)) (s : Shared) (σ : St) (H : Hp) (x : V) (xs : List V) (v : Value) (us : List Value) (Q : VK), Inv X pins σ H s → RelV x v → Vals xs us → r x xs H Q →
    wpAny (model X.prog X.w) X.A (call (.builtin id) (v :: us)) (EP X pins σ Q) X.xe s
section
variable {X : Cx} {a b : Expr} {ta tb : TE} {pos : Pos}
theorem IxR.or {r r' : R2} (h : IxR X r) (h' : IxR X r') : IxR X (fun x y H Q => r x y H Q ∨ r' x y H Q) := by
  intro value slice pins s σ H x y v u Q I rx ry q hs
  rcases q with q | q
  · exact h value slice pins s σ H x y v u Q I rx ry q hs
  · exact h' value slice pins s σ H x y v u Q I rx ry q hs
theorem MtR.or {id : String} {r r' : V → List V → Hp → VK → Prop} (h : MtR X id r) (h' : MtR X id r') : MtR X id (fun x xs H Q => r x xs H Q ∨ r' x xs H Q) := by
  intro pins s σ H x xs v us Q I rx rs q
  rcases q with q | q
  · exact h pins s σ H x xs v us Q I rx rs q
  · exact h' pins s σ H x xs v us Q I rx rs q
theorem pe_ix {r : R2} (hr : IxR X r) (ha : PE X a ta) (hb : PE X b tb) (hs : PlainIx b) : PE X (.Subscript a b pos) (tOp r ta tb) := by
  intro pins s σ H Q I h
  exact Subscript_ (binT ha hb I h fun v u s2 x y H2 I2 rx ry q => hr a b pins s2 σ H2 x y v u Q I2 rx ry q (hs _ _))

def rIxL (K : PySem.W.Frag) : R2 := fun x y H Q => ∃ p xs i v, x = .ref p ∧ y = .int i ∧ SqL K H p xs ∧ atI xs i = some v ∧ Q v H
def rIxT (K : PySem.W.Frag) : R2 := fun x y H Q => ∃ p xs i v, x = .ref p ∧ y = .int i ∧ SqT K H p xs ∧ atI xs i = some v ∧ Q v H
def rIxS : R2 := fun x y H Q => ∃ z i c, x = .str z ∧ y = .int i ∧ z.length ≤ sizeLine ∧ atI z.cps.toList i = some c ∧ Q (.str ⟨#[c]⟩) H
theorem ix_list : IxR X (rIxL X.K) := by
  intro value slice pins s σ H x y v u Q I rx ry h hs
  obtain ⟨p, xs, i, z, rfl, rfl, hq, he, q⟩ := h
  cases rx
  obtain ⟨t, rfl⟩ := ry
  obtain ⟨its, r, pl, hz⟩ := I.list hq
  obtain ⟨j, h1, h2, h3, h4, h5⟩ := atI_get he
  obtain ⟨w, ew, rw'⟩ := r.get h2
  have hl := r.length
  have hn := line63
  have fin : EP X pins σ Q w s := ⟨z, H, I, rw', q⟩
  by_cases h0 : 0 ≤ i
  · have hj : i.toNat = j := by
      rw [seqIndex_of h0 h5] at h1
      exact Option.some.inj h1
    exact item_listR pl.isList h0 (by omega) (by rw [hj]; simpa using ew) fin hs
  · have hj : (i + (its.toArray.size : Int)).toNat = j := by
      rw [seqIndex_neg (by omega) h4] at h1
      rw [List.size_toArray, ← hl]
      exact Option.some.inj h1
    exact subscriptTail_builtinR (x := w) pl.isList.typeIs slot_list_getitem.lookup
      (wpAny_getItem_list_neg (Q := fun r s' => r = w ∧ EP X pins σ Q r s') pl.isList (by omega) (by rw [List.size_toArray] <;> omega) (by omega) (by rw [hj]; simpa using ew) ⟨rfl, fin⟩) hs
theorem ix_tup : IxR X (rIxT X.K) := by
  intro value slice pins s σ H x y v u Q I rx ry h hs
  obtain ⟨p, xs, i, z, rfl, rfl, hq, he, q⟩ := h
  cases rx
  obtain ⟨t, rfl⟩ := ry
  obtain ⟨its, r, pl, hz⟩ := I.tuple hq
  obtain ⟨j, h1, h2, h3, h4, h5⟩ := atI_get he
  obtain ⟨w, ew, rw'⟩ := r.get h2
  have hl := r.length
  have hn := line63
  have fin : EP X pins σ Q w s := ⟨z, H, I, rw', q⟩
  exact subscriptTail_builtinR (x := w) pl.typeIs slot_tuple_getitem.lookup
    (getItem_tuple (j := j) (Q := fun r s' => r = w ∧ EP X pins σ Q r s') pl (by omega) (by omega) (by rw [List.size_toArray, ← hl]; exact h1) (by simpa using ew) ⟨rfl, fin⟩) hs
theorem ix_str : IxR X rIxS := by
  intro value slice pins s σ H x y v u Q I rx ry h hs
  obtain ⟨z, i, c, rfl, rfl, hz, he, q⟩ := h
  obtain ⟨t, rfl⟩ := rx
  obtain ⟨t', rfl⟩ := ry
  obtain ⟨j, h1, h2, h3, h4, h5⟩ := atI_get he
  have hl : z.cps.toList.length = z.length := by simp [Str.length]
  rw [hl] at h1 h4 h5
  have hn := line63
  exact tail_any (typeIs_str s z t) slot_str_getitem.lookup (getItem_str (c := c) (by
    have e1 : decide (i < -(2 ^ 63 : Int)) = false := decide_eq_false (by omega)
    have e2 : decide (i ≥ 2 ^ 63) = false := decide_eq_false (by omega)
    rw [e1, e2, Bool.or_false]) (by rw [h1]; simpa using h2) ⟨.str ⟨#[c]⟩, H, I.tok _, ⟨_, rfl⟩, q⟩) hs
def rIx (K : PySem.W.Frag) : R2 := fun x y H Q => rIxL K x y H Q ∨ rIxT K x y H Q ∨ rIxS x y H Q
theorem ix_seq : IxR X (rIx X.K) := ix_list.or (ix_tup.or ix_str)

theorem mapSeq_set (its : List Value) (n j : Nat) (u : Value) : Obj.mapSeq (·.setIfInBounds j u) { cls := .type "list", data := .seq its.toArray n } = { cls := .type "list", data := .seq (its.set j u).toArray n } := by
  simp [Obj.mapSeq]
theorem Inv.lst {pins : List (Addr × Obj)} {σ : St} {H : Hp} {s : Shared} {p : Addr} {xs : List V} (I : Inv X pins σ H s) (h : H p = some (.lst xs)) :
    ∃ (its : List Value) (n : Nat), Vals xs its ∧ s.heap.get? p = some { cls := .type "list", data := .seq its.toArray n } ∧ xs.length ≤ sizeLine := by
  obtain ⟨z, its, n, r, e⟩ := I.hok p _ h
  exact ⟨its, n, r, e, z⟩
theorem Inv.lstUpd {pins : List (Addr × Obj)} {σ : St} {H : Hp} {s : Shared} {p : Addr} {xs ys : List V} {its its' : List Value} {n n' : Nat} {f : Obj → Obj} (I : Inv X pins σ H s) (h : H p = some (.lst xs))
    (ho : s.heap.get? p = some { cls := .type "list", data := .seq its.toArray n }) (hf : f { cls := .type "list", data := .seq its.toArray n } = { cls := .type "list", data := .seq its'.toArray n' }) (r : Vals ys its') (hz : ys.length ≤ sizeLine) (t : Nat) :
    Inv X pins σ (upd H p (.lst ys)) { s with heap := s.heap.update p f, toks := t } := by
  have e : (s.heap.update p f).get? p = some { cls := .type "list", data := .seq its'.toArray n' } := by
    rw [Heap.get?_update_self f ho (by rw [hf] <;> rfl), hf]
  refine I.write (x := p) (e := p) (by rw [h]; trivial) (.inl rfl) (fun b u hb q => (Heap.get?_update_other _ _ (Ne.symm hb)).trans q) ⟨_, e⟩ ?_
  exact ⟨hz, its', n', r, e⟩
def rSetL : V → V → V → Hp → (Hp → Prop) → Prop := fun o i v H Q => ∃ p xs k j, o = .ref p ∧ i = .int k ∧ H p = some (.lst xs) ∧ ixN xs.length k = some j ∧ Q (upd H p (.lst (xs.set j v)))
theorem set_list : PSet X rSetL := by
  intro pins s σ H o i v ov iv u Q I ro ri rv h
  obtain ⟨p, xs, k, j, rfl, rfl, hp, hj, q⟩ := h
  cases ro
  obtain ⟨t, rfl⟩ := ri
  obtain ⟨its, n, r, ho, hz⟩ := I.lst hp
  obtain ⟨h1, h2, h3, h4⟩ := ixN_seq hj
  have hl := r.length
  have hn := line63
  have I' : Inv X pins σ (upd H p (.lst (xs.set j v))) { s with heap := s.heap.update p (Obj.mapSeq (·.setIfInBounds j u)) } :=
    I.lstUpd hp ho (mapSeq_set its n j u) (r.set rv j) (by rw [List.length_set]; exact hz) s.toks
  by_cases h0 : 0 ≤ k
  · have hk : k.toNat = j := by
      rw [seqIndex_of h0 h4] at h1
      exact Option.some.inj h1
    exact PySem.W.ki_setAt ho h0 (by omega) (by rw [List.size_toArray, ← hl]; exact h4) (by rw [hk]; exact ⟨_, I', q⟩)
  · have hk : (k + (its.toArray.size : Int)).toNat = j := by
      rw [seqIndex_neg (by omega) h3] at h1
      rw [List.size_toArray, ← hl]
      exact Option.some.inj h1
    exact PySem.W.ki_setBack ho (by omega) (by rw [List.size_toArray, ← hl]; exact h3) (by omega) (by rw [hk]; exact ⟨_, I', q⟩)

theorem slice_bounds (lo hi : Option Int) (n : Nat) : (sliceBounds lo hi none n).1 = ((HT.sIx n 0 lo : Nat) : Int) ∧ (sliceBounds lo hi none n).2.1 = ((HT.sIx n n hi : Nat) : Int) ∧ (sliceBounds lo hi none n).2.2 = 1 := by
  refine ⟨?_, ?_, rfl⟩
  · cases lo with
    | none => simp [sliceBounds, HT.sIx]
    | some i =>
      simp only [sliceBounds, HT.sIx, Option.getD_none, show (1 : Int) > 0 by decide, if_true]
      by_cases h : i < 0
      · simp only [h, if_true] <;> omega
      · simp only [h, if_false] <;> omega
  · cases hi with
    | none => simp [sliceBounds, HT.sIx]
    | some i =>
      simp only [sliceBounds, HT.sIx, Option.getD_none, show (1 : Int) > 0 by decide, if_true]
      by_cases h : i < 0
      · simp only [h, if_true] <;> omega
      · simp only [h, if_false] <;> omega
theorem slicePick_cut (its : List Value) (lo hi : Option Int) : slicePick its.toArray lo hi none = ((its.drop (HT.sIx its.length 0 lo)).take (HT.sIx its.length its.length hi - HT.sIx its.length 0 lo)).toArray := by
  obtain ⟨h1, h2, h3⟩ := slice_bounds lo hi its.toArray.size
  unfold slicePick
  rw [h1, h2, h3]
  simp only [sliceRange_one, pick_run, List.size_toArray] <;> rfl
def rSlL (K : PySem.W.Frag) : V → Option Int → Option Int → Hp → VK → Prop := fun x lo hi H Q => ∃ a xs, x = .ref a ∧ SqL K H a xs ∧ ∀ p, H p = none → Q (.ref p) (upd H p (.lst (cutV xs lo hi)))
theorem sl_list : SlR X (rSlL X.K) := by
  intro pins s σ H x v vl vu lo hi sl Q I rx hs pl pu h
  obtain ⟨a, xs, rfl, hx, q⟩ := h
  cases rx
  obtain ⟨its, r, ht, hz⟩ := I.list hx
  have hlen := r.length
  refine ⟨"list", _, slot_list_getitem.lookup, ht.isList.typeIs, ?_⟩
  refine wpAny_getItem_list_slice ht.isList hs pl pu .none (by simp) ?_ (by rw [List.size_toArray] <;> omega)
  rw [slicePick_cut, ← hlen]
  refine ⟨.ref s.heap.objs.size, _, I.laid (t' := s.toks) (o := .lst (cutV xs lo hi)) (fun b ob q => Heap.get?_push_of_some _ q) (Nat.le_refl _) ?_, rfl, q _ (I.hok.fresh (Nat.le_refl _))⟩
  exact ⟨Nat.le_trans (cutV_length xs lo hi) hz, _, 0, (r.drop (HT.sIx xs.length 0 lo)).take (HT.sIx xs.length xs.length hi - HT.sIx xs.length 0 lo), Heap.get?_push_size _ rfl⟩

theorem call_len_seq : CallR X (.builtin "len") (fun xs H Q => ∃ p ys, xs = [.ref p] ∧ (SqL X.K H p ys ∨ SqT X.K H p ys) ∧ Q (.int ys.length) H) := by
  intro pins s σ H xs us Q I r h
  obtain ⟨p, ys, rfl, hq, q⟩ := h
  obtain ⟨u, rfl, rx⟩ := vals1 r
  cases rx
  have hn := line63
  rcases hq with hq | hq
  · obtain ⟨its, r', pl, hz⟩ := I.list hq
    have hlen := r'.length
    exact Calls.call_len_list pl.isList (by simp only [List.size_toArray] <;> omega) ⟨.int ys.length, H, I.tok _, ⟨s.toks + 1, by rw [List.size_toArray, hlen]⟩, q⟩
  · obtain ⟨its, r', pl, hz⟩ := I.tuple hq
    have hlen := r'.length
    exact len_tuple pl (by simp only [List.size_toArray] <;> omega) ⟨.int ys.length, H, I.tok _, ⟨s.toks + 1, by rw [List.size_toArray, hlen]⟩, q⟩
theorem CallR.or {f : Value} {r r' : List V → Hp → VK → Prop} (h : CallR X f r) (h' : CallR X f r') : CallR X f (fun xs H Q => r xs H Q ∨ r' xs H Q) := by
  intro pins s σ H xs us Q I rs q
  rcases q with q | q
  · exact h pins s σ H xs us Q I rs q
  · exact h' pins s σ H xs us Q I rs q
theorem call_list_of : CallR X (.type "list") (fun xs H Q => ∃ p ys, xs = [.ref p] ∧ (SqL X.K H p ys ∨ SqT X.K H p ys) ∧ ∀ l, H l = none → Q (.ref l) (upd H l (.lst ys))) := by
  intro pins s σ H xs us Q I r h
  obtain ⟨p, ys, rfl, hq, q⟩ := h
  obtain ⟨u, rfl, rx⟩ := vals1 r
  cases rx
  have fin : ∀ (its : List Value), Vals ys its → ys.length ≤ sizeLine → ∀ (h' : Heap) (c' : Nat), (∀ b o', s.heap.get? b = some o' → h'.get? b = some o') →
      h'.get? s.heap.objs.size = some { cls := .type "list", dict := none, data := .seq its.toArray c', slots := #[] } → EP X pins σ Q (.ref s.heap.objs.size) { s with heap := h' } := fun its r' hz h' c' kp e =>
    ⟨.ref s.heap.objs.size, _, I.laid (t' := s.toks) kp (Nat.le_refl _) (show ObjOk X.prog X.w _ h' _ (.lst ys) from ⟨hz, its, c', r', e⟩), rfl, q _ (I.hok.fresh (Nat.le_refl _))⟩
  rcases hq with hq | hq
  · obtain ⟨its, r', pl, hz⟩ := I.list hq
    have hlen := r'.length
    obtain ⟨o, ho, hc, n, hd⟩ := pl.isList
    exact call_list_seq p (.inl rfl) ho hc hd (fun h' c' kp e => fin its r' hz h' c' kp e) (by simp only [List.size_toArray] <;> omega)
  · obtain ⟨its, r', pl, hz⟩ := I.tuple hq
    have hlen := r'.length
    obtain ⟨o, ho, hc, n, hd⟩ := pl
    exact call_list_seq p (.inr rfl) ho hc hd (fun h' c' kp e => fin its r' hz h' c' kp e) (by simp only [List.size_toArray] <;> omega)
theorem call_tuple_of : CallR X (.type "tuple") (fun xs H Q => ∃ p ys, xs = [.ref p] ∧ ((SqL X.K H p ys ∧ ∀ l, H l = none → Q (.ref l) (upd H l (.tup ys))) ∨ (SqT X.K H p ys ∧ Q (.ref p) H))) := by
  intro pins s σ H xs us Q I r h
  obtain ⟨p, ys, rfl, h⟩ := h
  obtain ⟨u, rfl, rx⟩ := vals1 r
  cases rx
  rcases h with ⟨hq, q⟩ | ⟨hq, q⟩
  · obtain ⟨its, r', pl, hz⟩ := I.list hq
    have hlen := r'.length
    refine call_tuple_list pl.isList (fun h' kp => ?_) (by simp only [List.size_toArray] <;> omega)
    have I1 : Inv X pins σ H { s with heap := h' } := I.kept (t' := s.toks) kp
    have I2 : Inv X pins σ (upd H h'.objs.size (.tup ys)) { s with heap := h'.push { cls := .type "tuple", data := .seq its.toArray } } :=
      I1.laid (t' := s.toks) (fun b o e => Heap.get?_push_of_some _ e) (Nat.le_refl _) (show ObjOk X.prog X.w _ _ _ (.tup ys) from ⟨hz, its, r', IsTup.new _ _⟩)
    exact ⟨.ref h'.objs.size, _, I2, rfl, q _ (I1.hok.fresh (Nat.le_refl _))⟩
  · obtain ⟨its, r', pl, hz⟩ := I.tuple hq
    exact call_tuple_same pl ⟨.ref p, H, I, rfl, q⟩

def tyV (K : PySem.W.Frag) (T : String) (x : V) (H : Hp) : Prop := match x with
  | .str _ => T = "str"
  | .int _ => T = "int"
  | .ref p => (T = "list" ∧ ∃ xs, SqL K H p xs) ∨ (T = "tuple" ∧ ∃ o, K.lookup p = some o ∧ o.cls = .type "tuple" ∧ o.dict = none) ∨
      (T = "dict" ∧ ((∃ kvs, H p = some (.dK kvs)) ∨ ∃ kvs, H p = some (.dT kvs))) ∨ (T = "set" ∧ ∃ S n, H p = some (.set S n))
  | _ => False
theorem tyV_is {pins : List (Addr × Obj)} {σ : St} {H : Hp} {s : Shared} {T : String} {x : V} {v : Value} (I : Inv X pins σ H s) (r : RelV x v) (ty : tyV X.K T x H) :
    s.TypeIs v T ∧ ∀ a, v = .ref a → ∃ ob, s.heap.get? a = some ob ∧ ob.dict = none := by
  cases x with
  | str z =>
    obtain ⟨t, rfl⟩ := r
    cases (show T = "str" from ty)
    exact ⟨typeIs_str s z t, fun _ e => nomatch e⟩
  | int i =>
    obtain ⟨t, rfl⟩ := r
    cases (show T = "int" from ty)
    exact ⟨typeIs_int s i t, fun _ e => nomatch e⟩
  | ref p =>
    cases r
    rcases ty with ⟨rfl, xs, hq⟩ | ⟨rfl, o, hk, hc, hd⟩ | ⟨rfl, hk⟩ | ⟨rfl, S, n, hk⟩
    · obtain ⟨its, _, pl, _⟩ := I.list hq
      refine ⟨pl.isList.typeIs, fun a e => ?_⟩
      cases e
      obtain ⟨o, n, e, c, hd, _⟩ := pl
      exact ⟨o, e, hd⟩
    · refine ⟨⟨o, I.kIn p o hk, hc⟩, fun a e => ?_⟩
      cases e
      exact ⟨o, I.kIn _ o hk, hd⟩
    · have z : ∃ o, s.heap.get? p = some o ∧ o.ExactDict := by
        rcases hk with ⟨kvs, hk⟩ | ⟨kvs, hk⟩
        · obtain ⟨_, _, _, _, o, _, _, e, ex, _⟩ := I.hok p _ hk
          exact ⟨o, e, ex⟩
        · obtain ⟨_, _, _, _, o, _, _, e, ex, _⟩ := I.hok p _ hk
          exact ⟨o, e, ex⟩
      obtain ⟨o, e, ex⟩ := z
      refine ⟨⟨o, e, ex.1⟩, fun a e2 => ?_⟩
      cases e2
      exact ⟨o, e, ex.2.1⟩
    · obtain ⟨o, _, _, _, e, ex, _⟩ := I.hok p _ hk
      refine ⟨⟨o, e, ex.1⟩, fun a e2 => ?_⟩
      cases e2
      exact ⟨o, e, ex.2.1⟩
  | _ => exact False.elim ty
def tBM (K : PySem.W.Frag) (T : String) (r : V → List V → Hp → VK → Prop) (to : TE) (t : TA) : TE := fun σ H Q => to σ H fun x H1 => tyV K T x H1 ∧ t σ H1 fun xs H2 => r x xs H2 Q
variable {o e : Expr} {es : List Expr} {to : TE} {t : TA} {name : Str} {apos cpos : Pos} {T id : String} {r : V → List V → Hp → VK → Prop}
theorem pe_bm (pa : PlainAttrs T) (slot : Slot T name id) (hty : typeOf (.builtin id) = pure (.type "method_descriptor")) (hm : MtR X id r) (ho : PE X o to) (ha : PA X (e :: es) t)
    (hbase : attributeBase o name X.env (eval o X.env) = eval o X.env := by rfl)
    (hfew : ((backTo cpos (starEach (e :: es) X.env)).all (fun x => !x.1) && (backToKw cpos (keywordEach [] X.env)).all (fun x => x.1.isSome)
      && decide ((e :: es).length + ([] : List Keyword).length + (if ([] : List Keyword).isEmpty then 0 else 1) < 30)) = true := by rfl)
    (hline : (apos.endLine == cpos.line) = true := by rfl) (hs : starEach (e :: es) X.env = (false, eval e X.env) :: starEach es X.env := by rfl) (hplain : (backTo cpos (starEach es X.env)).any (·.1) = false := by rfl) :
    PE X (.Call (.Attribute o name apos) (e :: es) [] cpos) (tBM X.K T r to t) := by
  intro pins s σ H Q I h
  refine wpAny_Call_method_late hbase hfew hline rfl (thn (ho pins s σ H _ I h) fun v s1 ⟨x, H1, I1, r1, ty, q1⟩ => ?_)
  obtain ⟨h1, h2⟩ := tyV_is I1 r1 ty
  refine ⟨T, id, pa, slot, hty, h1, h2, ?_⟩
  have hA := ha cpos pins s1 σ H1 _ I1 q1
  rw [hs] at hA ⊢
  refine Calls.callWith_builtin (by show (false || (backTo cpos (starEach es X.env)).any (·.1)) = false; rw [hplain] <;> rfl) (Calls.evalArgs_plain ?_)
  exact thn hA fun us s2 ⟨vs, H2, I2, r2, q2⟩ => hm pins s2 σ H2 x vs v us Q I2 r1 r2 q2
/- xs.append(e), list.index on a module's tuple .. are MtR facts of 06m -/
end
end L2

namespace L2
open PySem PySem.Spec PyProof.Rows

def MtM (X : Cx) (id : String) (r : V → List V → Hp → VK → Prop) : Prop :=
  ∀ (pins : List (Addr × Obj)) (s : Shared) (σ : St) (H : Hp) (x : V) (xs : List V) (v : Value) (us : List Value) (Q : VK), Inv X pins σ H s → RelV x v → Vals xs us → r x xs H Q →
    wpAny (model X.prog X.w) X.A (call (.builtin id) (v :: us)) (EP X pins σ Q) X.xe s

theorem Vals.one : ∀ {x : V} {us : List Value}, Vals [x] us → ∃ u, us = [u] ∧ RelV x u
  | _, _, .cons r .nil => ⟨_, rfl, r⟩
theorem Vals.two : ∀ {x y : V} {us : List Value}, Vals [x, y] us → ∃ u v, us = [u, v] ∧ RelV x u ∧ RelV y v
  | _, _, _, .cons r (.cons q .nil) => ⟨_, _, rfl, r, q⟩
theorem Vals.zero : ∀ {us : List Value}, Vals [] us → us = []
  | _, .nil => rfl
theorem Vals.eraseIdx : ∀ {xs : List V} {us : List Value} (i : Nat), Vals xs us → Vals (xs.eraseIdx i) (us.eraseIdx i)
  | _, _, _, .nil => .nil
  | _, _, 0, .cons _ t => t
  | _, _, i + 1, .cons r t => .cons r (Vals.eraseIdx i t)
theorem Vals.reverse {xs : List V} {us : List Value} (h : Vals xs us) : Vals xs.reverse us.reverse := by
  induction h with
  | nil => exact .nil
  | cons r t ih => rw [List.reverse_cons, List.reverse_cons]; exact Vals.append ih (.cons r .nil)
theorem Vals.rep {xs : List V} {us : List Value} (h : Vals xs us) : ∀ k : Nat, Vals (List.replicate k xs).flatten (List.replicate k us).flatten
  | 0 => .nil
  | k + 1 => by
    rw [List.replicate_succ, List.replicate_succ, List.flatten_cons, List.flatten_cons]
    exact Vals.append h (Vals.rep h k)
theorem len_erase {α : Type} : ∀ (l : List α) (i : Nat), (l.eraseIdx i).length ≤ l.length
  | [], _ => Nat.le_refl _
  | _ :: _, 0 => Nat.le_succ _
  | _ :: r, i + 1 => Nat.succ_le_succ (len_erase r i)
theorem foldl_rep (its : List Value) : ∀ (k : Nat) (acc : List Value),
    List.foldl (fun x1 x2 => x1 ++ x2) acc.toArray (List.replicate k its.toArray) = (acc ++ (List.replicate k its).flatten).toArray
  | 0, acc => by simp
  | k + 1, acc => by
    have e : acc.toArray ++ its.toArray = (acc ++ its).toArray := by simp
    have e2 : (acc ++ its) ++ (List.replicate k its).flatten = acc ++ (List.replicate (k + 1) its).flatten := by
      rw [List.replicate_succ, List.flatten_cons, List.append_assoc]
    rw [← e2, ← foldl_rep its k (acc ++ its), ← e, List.replicate_succ, List.foldl_cons]

section
variable {X : Cx} {pins : List (Addr × Obj)} {σ : St} {H : Hp} {s : Shared} {l b : Addr} {xs ys zs : List V}

theorem Inv.lset {its its' : List Value} {n : Nat} {f : Array Value → Array Value} {t' : Nat} (I : Inv X pins σ H s) (hH : H l = some (.lst xs))
    (e : s.heap.get? l = some { cls := .type "list", data := .seq its.toArray n }) (hf : f its.toArray = its'.toArray) (hv : Vals ys its') (hz : ys.length ≤ sizeLine) :
    Inv X pins σ (upd H l (.lst ys)) { s with heap := s.heap.update l (Obj.mapSeq f), toks := t' } := by
  have q := PySem.IsL.update e f
  rw [hf] at q
  refine I.write (x := l) (e := l) (by rw [hH]; exact trivial) (.inl rfl) (fun b' u hb hu => (Heap.get?_update_other s.heap (Obj.mapSeq f) (Ne.symm hb)).trans hu) ⟨_, q⟩ ?_
  exact ⟨hz, its', _, hv, q⟩
theorem Inv.lnew {its : List Value} {t' : Nat} (I : Inv X pins σ H s) (hv : Vals ys its) (hz : ys.length ≤ sizeLine) :
    Inv X pins σ (upd H s.heap.objs.size (.lst ys)) { s with heap := s.heap.push { cls := .type "list", data := .seq its.toArray }, toks := t' } :=
  I.laid (fun _ _ q => Heap.get?_push_of_some _ q) (Nat.le_refl _) ⟨hz, its, 0, hv, Heap.get?_push_size _ rfl⟩
theorem Inv.fresh (I : Inv X pins σ H s) : H s.heap.objs.size = none := I.hok.fresh (Nat.le_refl _)
theorem Inv.lstM (I : Inv X pins σ H s) (hH : H l = some (.lst xs)) : xs.length ≤ sizeLine ∧ ∃ (its : List Value) (n : Nat), Vals xs its ∧ xs.length = its.length ∧ s.heap.get? l = some { cls := .type "list", data := .seq its.toArray n } := by
  obtain ⟨z, its, n, r, e⟩ := I.hok l _ hH
  exact ⟨z, its, n, r, r.length, e⟩

theorem notLongL {n : Nat} (h : n ≤ sizeLine) : Builtin.List.listTooLong n = false := by
  unfold Builtin.List.listTooLong
  exact decide_eq_false (by omega)
end

section
variable {X : Cx}

def rAppend : V → List V → Hp → VK → Prop := fun x vs H Q => ∃ l xs y, x = .ref l ∧ vs = [y] ∧ H l = some (.lst xs) ∧ xs.length < sizeLine ∧ Q .non (upd H l (.lst (xs ++ [y])))
theorem mt_append : MtM X "list.append" rAppend := by
  intro pins s σ H x vs v us Q I rx rv h
  obtain ⟨l, xs, y, rfl, rfl, hH, hz, q⟩ := h
  cases rx
  obtain ⟨u, rfl, ru⟩ := rv.one
  obtain ⟨z, its, n, r, hl, e⟩ := I.lstM hH
  refine call_meets F.slot_list_append ⟨_, e, rfl⟩ F.entry_list_append (F.args_list_append_2 _ _) (PySem.list_append l its.toArray n u (by rw [List.size_toArray]; omega)) ⟨e, ?_⟩
  refine ⟨.non, _, I.lset (its' := its ++ [u]) hH e (by simp) (r.append (.cons ru .nil)) ?_, rfl, q⟩
  rw [List.length_append, List.length_singleton]
  omega

def rExtend : V → List V → Hp → VK → Prop := fun x vs H Q => ∃ l b xs zs, x = .ref l ∧ vs = [.ref b] ∧ H l = some (.lst xs) ∧ H b = some (.lst zs) ∧ xs.length + zs.length ≤ sizeLine ∧ Q .non (upd H l (.lst (xs ++ zs)))
theorem mt_extend : MtM X "list.extend" rExtend := by
  intro pins s σ H x vs v us Q I rx rv h
  obtain ⟨l, b, xs, zs, rfl, rfl, hH, hB, hz, q⟩ := h
  cases rx
  obtain ⟨u, rfl, ru⟩ := rv.one
  cases ru
  obtain ⟨z, its, n, r, hl, e⟩ := I.lstM hH
  obtain ⟨z2, its2, n2, r2, hl2, e2⟩ := I.lstM hB
  have hsz : its.toArray.size + its2.toArray.size ≤ sizeLine := by rw [List.size_toArray, List.size_toArray]; omega
  have hlong : ¬ (!its.toArray.isEmpty && Builtin.List.listTooLong (its.toArray.size + its2.toArray.size)) = true := by
    rw [notLongL hsz, Bool.and_false]
    exact Bool.false_ne_true
  refine call_meets F.slot_list_extend ⟨_, e, rfl⟩ F.entry_list_extend (F.args_list_extend_2 _ _)
    (AutoSeq1.list_extend_list_list_0 l its.toArray n b its2.toArray n2 hlong (by rw [List.size_toArray]; omega) (by omega)) ⟨e, e2, ?_⟩
  refine ⟨.non, _, I.lset (its' := its ++ its2) hH e (by simp) (r.append r2) ?_, rfl, q⟩
  rw [List.length_append]
  omega

def rPopAt : V → List V → Hp → VK → Prop := fun x vs H Q => ∃ l xs i k y, x = .ref l ∧ vs = [.int i] ∧ H l = some (.lst xs) ∧ -(2 ^ 63) ≤ i ∧ i < 2 ^ 63 ∧ seqIndex? i xs.length = some k ∧ xs[k]? = some y ∧ Q y (upd H l (.lst (xs.eraseIdx k)))
theorem mt_popAt : MtM X "list.pop" rPopAt := by
  intro pins s σ H x vs v us Q I rx rv h
  obtain ⟨l, xs, i, k, y, rfl, rfl, hH, h1, h2, hk, hy, q⟩ := h
  cases rx
  obtain ⟨u, rfl, ru⟩ := rv.one
  obtain ⟨t, rfl⟩ := ru
  obtain ⟨z, its, n, r, hl, e⟩ := I.lstM hH
  obtain ⟨w, hw, rw'⟩ := r.get hy
  refine call_meets F.slot_list_pop ⟨_, e, rfl⟩ F.entry_list_pop (F.args_list_pop_2 _ _)
    (MeetsSeq.list_pop_at l its.toArray n i t k w (fitsIndex_both h1 h2) (by rw [List.size_toArray, ← hl]; exact hk) (by rw [← Array.getElem?_toList]; exact hw) (by rw [List.size_toArray]; omega)) ⟨e, ?_⟩
  refine ⟨y, _, I.lset (its' := its.eraseIdx k) hH e ?_ (r.eraseIdx k) ?_, rw', q⟩
  · show its.toArray.eraseIdxIfInBounds k = (its.eraseIdx k).toArray
    rw [List.eraseIdxIfInBounds_toArray]
  · have := len_erase xs k
    omega

def rCat : R2 := fun x y H Q => ∃ l b xs zs, x = .ref l ∧ y = .ref b ∧ H l = some (.lst xs) ∧ H b = some (.lst zs) ∧ xs.length + zs.length ≤ sizeLine ∧ ∀ p, H p = none → Q (.ref p) (upd H p (.lst (xs ++ zs)))
theorem op_cat : OpR X (binaryOp .Add) rCat := by
  intro pins s σ H x y v u Q I rx ry h
  obtain ⟨l, b, xs, zs, rfl, rfl, hH, hB, hz, q⟩ := h
  cases rx
  cases ry
  obtain ⟨z, its, n, r, hl, e⟩ := I.lstM hH
  obtain ⟨z2, its2, n2, r2, hl2, e2⟩ := I.lstM hB
  refine PySem.P.add_list e e2 ?_ (by rw [List.size_toArray, List.size_toArray]; omega)
  have ea : its.toArray ++ its2.toArray = (its ++ its2).toArray := by simp
  rw [ea]
  exact ⟨.ref _, _, I.lnew (t' := s.toks) (r.append r2) (by rw [List.length_append]; omega), rfl, q _ I.fresh⟩
def rRep : R2 := fun x y H Q => ∃ l k xs, x = .ref l ∧ y = .int k ∧ H l = some (.lst xs) ∧ -(2 ^ 63) ≤ k ∧ k < 2 ^ 63 ∧ xs.length * k.toNat ≤ sizeLine ∧
  ∀ p, H p = none → Q (.ref p) (upd H p (.lst (List.replicate k.toNat xs).flatten))
theorem len_rep {α : Type} (xs : List α) (k : Nat) : (List.replicate k xs).flatten.length = k * xs.length := by
  induction k with
  | zero => simp
  | succ k ih => rw [List.replicate_succ, List.flatten_cons, List.length_append, ih, Nat.succ_mul, Nat.add_comm]
theorem op_rep : OpR X (binaryOp .Mult) rRep := by
  intro pins s σ H x y v u Q I rx ry h
  obtain ⟨l, k, xs, rfl, rfl, hH, h1, h2, hz, q⟩ := h
  cases rx
  obtain ⟨t, rfl⟩ := ry
  obtain ⟨z, its, n, r, hl, e⟩ := I.lstM hH
  have hlen : its.toArray.size * k.toNat ≤ sizeLine := by rw [List.size_toArray, ← hl]; exact hz
  have hcap : ¬ its.toArray.size * k.toNat > (2 ^ 63 - 1) / 8 := by
    have : (sizeLine : Nat) ≤ (2 ^ 63 - 1) / 8 := by decide
    omega
  have hfit : ¬ (!Builtin.List.listFitsIndex k) = true := by
    rw [fitsIndex_both h1 h2]
    exact Bool.false_ne_true
  have hlong : ¬ Builtin.List.listTooLong (its.toArray.size * k.toNat) = true := by
    rw [notLongL hlen]
    exact Bool.false_ne_true
  have hnew : List.foldl (fun x1 x2 => x1 ++ x2) #[] (List.replicate (if its.toArray.isEmpty = true then 0 else k.toNat) its.toArray) = (List.replicate k.toNat its).flatten.toArray := by
    have f0 : ∀ m : Nat, List.foldl (fun x1 x2 => x1 ++ x2) #[] (List.replicate m its.toArray) = (List.replicate m its).flatten.toArray := fun m => by
      have := foldl_rep its m []
      rw [List.nil_append] at this
      exact this
    rw [f0]
    cases its with
    | nil => simp
    | cons a r' => rw [if_neg (by simp)]
  refine wpAny_binaryOp_repeat_ref (T := "list") (U := "int") (by decide) ⟨_, e, rfl⟩ (fun s' => typeIs_int s' k t) noFill_list_mul F.fills_int_mul F.slot_int_rmul repeat_list F.slot_int_index.lookup
    (call_meets F.slot_int_rmul (typeIs_int s k t) F.entry_int_rmul (F.args_int_rmul_2 _ _) (int___rmul___int_list k t l its.toArray n)
      ⟨e, rfl, ⟨_, e, rfl⟩, call_meets F.slot_list_mul ⟨_, e, rfl⟩ F.entry_list_mul (F.args_list_mul_2 _ _) (AutoListH.list___mul___list_int_3 l its.toArray n k t hfit hcap hlong) ⟨e, ?_⟩⟩)
  rw [hnew]
  exact ⟨.ref _, _, I.lnew (t' := s.toks) (r.rep k.toNat) (by rw [len_rep, Nat.mul_comm]; exact hz), rfl, q _ I.fresh⟩

end

section
variable {prog : Program} {w : World} {A : Around} {E : Value → Shared → Prop} {s : Shared}
set_option maxRecDepth 100000 in
end

section
variable {X : Cx}
end
end L2

namespace Att
open PySem PySem.W PySem.Calls PyProof.Rows

theorem ints_of_wellAll {P : Params} {h : Heap} : ∀ (ns : List Int) (vs : List Value), WellAll P h vs (ns.map WData.int) → IntsAre vs ns := by
  intro ns
  induction ns with
  | nil =>
    intro vs w
    rw [List.map_nil] at w
    cases w
    exact .nil
  | cons n ns ih =>
    intro vs w
    rw [List.map_cons] at w
    cases w with
    | cons a b =>
      cases a
      exact .cons _ _ (ih _ b)

theorem script_of {l : OpenLaw} {n : Nat} (hn : l.most = some n) {P : Params} {h : Heap} {args : List WData} {vals : List Value}
    (hpre : l.row.toRowW.claim.pre args = true) (hwl : WellAll P h vals args) :
    ∃ a vs ns, vals = [Value.ref a] ∧ args = [WData.list (ns.map WData.int)] ∧ h.get? a = some { cls := .type "list", data := .seq vs.toArray } ∧ IntsAre vs ns ∧ ns.length ≤ n := by
  have hsh : WShape.hasAll [] args [.list .int] = true := (pre_splitW hpre).1
  have hc : l.pre.holds [] { args := args } = true := (pre_splitW hpre).2
  obtain ⟨d, r, rfl, h1, h2⟩ := hasAllW_cons hsh
  obtain rfl := hasAllW_nil h2
  obtain ⟨xs, rfl, h3⟩ := hasW_list h1
  obtain ⟨ns, rfl⟩ := items_int h3
  have hlen : ns.length ≤ n := by
    unfold OpenLaw.pre at hc
    have h4 : (WTm.not (.lt (.lit (.int (n : Int))) (.len (.arg 0)))).holds [] { args := [.list (ns.map .int)] } = true := by
      have h4 := (holds_andW hc).1
      rw [hn] at h4
      exact h4
    have h5 := condW_of h4 (w_not (w_lt w_lit (w_len_list (w_arg rfl))))
    rw [List.length_map] at h5
    refine Nat.le_of_not_lt fun q => ?_
    have q' : (n : Int) < ((ns.length : Nat) : Int) := by omega
    first
      | (rw [decide_eq_true q'] at h5; exact absurd h5 (by decide))
      | (simp at h5; omega)
  cases hwl with
  | cons w1 w2 =>
    cases w2
    cases w1 with
    | list ho hall => exact ⟨_, _, ns, rfl, rfl, ho, ints_of_wellAll ns _ hall, hlen⟩

theorem post_true (l : OpenLaw) (args : List WData) : l.row.toRowW.claim.post args (.bool true) args = true :=
  postW_of (r := l.row.toRowW) (X := (true == true))
    (show WShape.has [] (.bool true) .bool = true by first | rfl | decide | simp [WShape.has, WShape.arms, WShape.armsAll])
    (show (WTm.eq .res (.lit (.bool true))).value [] { args := args, res := some (.bool true), after := args } = some (.bool (true == true)) from w_eq_bool (w_res rfl) w_lit) rfl

theorem low_script {R : WRecords} {cl : Str → Option Addr} {h : Heap} {a : Addr} {ds : List WData} {as : List Addr} (r : ReadsAllW R cl h [.ref a] [.list ds] as) (lo : ∀ b ∈ as, (b == sysModules) = false) : a ≠ sysModules := by
  cases r with
  | cons r1 _ =>
    cases r1 with
    | list _ _ _ _ => exact fun z => by have := lo a (by simp); rw [z] at this; simp at this
theorem attach_call {l : OpenLaw} {n : Nat} {q : Program} {loose : List Str} {XP : (Str → Option Value) → Heap → Prop} {YP : World → Heap → Prop} {d : DefRec}
    (hn : l.most = some n) (hdf : d.params.defaults = [])
    (call : ∀ (w : World) (s₀ s₁ : Shared) (mg mb : Str → Option Value) (fa : Addr) (o : Obj) (pm cd doc : Value) (a : Addr) (vs : List Value) (ns : List Int),
      Ground q loose [] XP w s₀ mg mb s₁.heap → YP w s₁.heap →
      s₁.heap.get? fa = some o → o.data = .func (docDef d.name d.params d.body d.scope pm cd doc) → s₁.heap.CodeRec cd d.name → mg d.name = some (.ref fa) →
      s₁.heap.get? a = some { cls := .type "list", data := .seq vs.toArray } → IntsAre vs ns → ns.length ≤ n → a ≠ sysModules → s₁.gens = #[] →
      codeAny (model l.prog w) callerA (.call (.ref fa) ⟨[.ref a], []⟩) (fun r s' => r = .ok (.ret (.bool true)) ∧ OldK s₁.heap s'.heap ∧ s'.os = s₁.os ∧ AllBare s'.gens) s₁) :
    WalkO q loose XP YP l.row.toRowW d [] (fun f vs => PySem.call f vs) := by
  intro w s₀ s₁ mg mb G Y fa o pm cd doc dV kV ho hd hcd hD hmg hg args vals as hpre hlay hrd hwl hlo
  obtain rfl : dV = .none := Dflts.none hD hdf
  obtain rfl : kV = .none := Dflts.noKw hD
  obtain ⟨a, vs, ns, rfl, rfl, hobj, hints, hlen⟩ := script_of hn hpre hwl
  refine enter_call (codeAny_mono (call w s₀ s₁ mg mb fa o pm cd doc a vs ns G Y ho (fd_plain hd) hcd hmg hobj hints hlen (low_script hrd hlo) hg) fun r s' hq => ?_)
  obtain ⟨rfl, h2, h3, h4⟩ := hq
  exact ⟨.inl ⟨.bool true, .bool true, [], rfl, fun _ => rfl, .bool true, post_true l _, fun _ => ⟨List.Pairwise.nil, fun _ hm => (nomatch hm)⟩⟩, h2, h3, h4⟩

section
variable {prog : Program} {w : World} {A : Around} {E : Value → Shared → Prop} {s : Shared} {K : Frag}

end
end Att

namespace L2
open PySem PySem.Spec PyProof.Rows

theorem vals_ints : ∀ {vs : List Value} {ns : List Int}, IntsAre vs ns → Vals (ns.map V.int) vs
  | _, _, .nil => .nil
  | _, _, .cons n t h => .cons ⟨t, rfl⟩ (vals_ints h)

def Only (H : Hp) : Prop := ∀ b, H b = none ∨ ∃ o xs, H b = some (.frz o (.lst xs))

theorem law_call {P : Program} {w : World} {K : PySem.W.Frag} {mg mb : Str → Option Value} {CX : CXT} {k : Nat} {fa a : Addr} {fd : FuncData} {x : Str} {sp : Sp} {s₁ : Shared} {vs : List Value} {ns : List Int}
    (KX : K.In s₁.heap) (hns : s₁.heap.Ns mainGlobals mg) (hb : s₁.heap.Ns builtinsNs mb) (hbb : ∀ x : Str, x ≠ "__name__" → mb x = bootBuiltins x) (hlim : s₁.heap.NoLimit) (hg : s₁.gens = #[])
    (ha : s₁.heap.get? a = some { cls := .type "list", data := .seq vs.toArray }) (hi : IntsAre vs ns) (hl : ns.length ≤ sizeLine) (hasy : a ≠ sysModules) (hr : Room k callerA)
    (F : ∀ base : Heap, K.In base → base.Ns mainGlobals mg → FnOk P w K mg base CX k fa fd [x] sp) (hbind : ∀ (s : Shared) (u : Value), BindsTo s fd ⟨[u], []⟩ [(x, u)])
    (hsp : ∀ H : Hp, Only H → SqL K H a (ns.map V.int) → sp [.ref a] H (fun v _ => v = .bl true) fun _ _ _ => False)
    (hCX : ∀ H e s', CX [] H s₁ (fun _ _ _ => False) e s' → False) :
    codeAny (model P w) callerA (.call (.ref fa) ⟨[.ref a], []⟩) (fun r s' => r = .ok (.ret (.bool true)) ∧ OldK s₁.heap s'.heap ∧ s'.os = s₁.os ∧ AllBare s'.gens) s₁ := by
  have rv := vals_ints hi
  have lenV := hi.length
  -- from an abstract heap in which nothing but the script may be tracked
  have core : ∀ H : Hp, Only H → SqL K H a (ns.map V.int) → HOk P w H s₁.heap → (∀ b, H b ≠ none → b = a) → (H a ≠ none → K.lookup a = none) →
      codeAny (model P w) callerA (.call (.ref fa) ⟨[.ref a], []⟩) (fun r s' => r = .ok (.ret (.bool true)) ∧ OldK s₁.heap s'.heap ∧ s'.os = s₁.os ∧ AllBare s'.gens) s₁ := by
    intro H hO hS hok hA hK
    have base_of : ∀ {b : Addr} {o : Obj}, s₁.heap.get? b = some o → H b = none → (hidT s₁.heap H).get? b = some o := fun e n => hidT_get e n
    have noA : ∀ {b : Addr} {o : Obj} {es : Array DictEntry} {ep : Nat}, s₁.heap.get? b = some o → o.data = .dict es ep → H b = none := fun {b o es ep} e d => by
      cases q : H b with
      | none => rfl
      | some u =>
        have e' : b = a := hA b (by rw [q]; simp)
        subst e'
        rw [ha] at e; cases e
        have d' : Data.seq vs.toArray _ = Data.dict es ep := d
        cases d'
    have nsK : ∀ {b : Addr} {m : Str → Option Value}, s₁.heap.Ns b m → (hidT s₁.heap H).Ns b m := fun {b m} ⟨o, es, ep, e, d, r⟩ => ⟨o, es, ep, base_of e (noA e d), d, r⟩
    have hKb : K.In (hidT s₁.heap H) := fun b o e => base_of (KX b o e) (by
      cases q : H b with
      | none => rfl
      | some u =>
        have e' : b = a := hA b (by rw [q]; simp)
        subst e'
        rw [hK (by rw [q]; simp)] at e; cases e)
    have hM : Mod K mg (hidT s₁.heap H) := ⟨hKb, nsK hns, ⟨mb, nsK hb, hbb⟩, let ⟨mc, h1, h2⟩ := hlim; ⟨mc, nsK h1, h2⟩⟩
    have e0 : Env0 P w K mg (hidT s₁.heap H) callerA [] s₁ H := ⟨rfl, hM, fun b o e => of_hidT e, Nat.le_of_eq (hidT_size _ _), trivial, fun b hb => absurd (show b ∈ ([] : List Addr) from hb) (by simp), hok, .of_eq hg, Classical.byContradiction fun z => hasy (hA _ z).symm⟩
    refine codeAny_mono ((F _ hKb (nsK hns)).run callerA [] s₁ H ⟨[.ref a], []⟩ [.ref a] [.ref a] _ _ hr e0 (hbind s₁ (.ref a)) (.cons rfl .nil) (hsp H hO hS)) fun r s' h => ?_
    cases r with
    | error e => exact (hCX H e s' h).elim
    | ok fl =>
      cases fl with
      | next => exact False.elim h
      | brk => exact False.elim h
      | cont => exact False.elim h
      | ret u =>
        obtain ⟨v, H', os, bare, un, hok', r', q⟩ := h
        have q' : v = .bl true := q
        subst q'
        obtain rfl : u = Value.bool true := r'
        refine ⟨rfl, OldK.of_keep fun b o e => ?_, os, bare⟩
        cases q : H b with
        | none => exact un.keep b o e q (by intro z; exact absurd (show b ∈ ([] : List Addr) from z) (by simp)) (by simp)
        | some u =>
          rcases hO b with z | ⟨ob, xs, z⟩
          · rw [q] at z; cases z
          · have z2 := un.frzs b ob _ z
            obtain ⟨e1, _⟩ := hok b _ z
            obtain ⟨e2, _⟩ := hok' b _ z2
            rw [e] at e1; cases e1
            exact e2
  cases hk : K.lookup a with
  | some o =>
    -- the script is one of the module's own objects
    have e := KX a o hk
    rw [ha] at e
    cases e
    refine core (fun _ => none) (fun _ => .inl rfl) (.inr ⟨_, vs.toArray, _, hk, rfl, rfl, rfl, by rw [List.size_toArray, lenV]; exact hl, by simpa using rv⟩) (fun b u z => by have z' : (none : Option HO) = some u := z; cases z') (fun b z => absurd rfl z) fun z => absurd rfl z
  | none =>
    refine core (fun b => if b = a then some (.frz { cls := .type "list", data := .seq vs.toArray } (.lst (ns.map V.int))) else none) (fun b => ?_) (.inl (.inr ⟨{ cls := .type "list", data := .seq vs.toArray }, if_pos rfl⟩)) (fun b u z => ?_) (fun b z => ?_) fun _ => hk
    · by_cases hb : b = a
      · exact .inr ⟨_, _, if_pos hb⟩
      · exact .inl (if_neg hb)
    · by_cases hb : b = a
      · have z' := (if_pos hb).symm.trans z
        cases z'
        subst hb
        exact ⟨ha, by rw [List.length_map]; exact hl, vs, _, rv, ha⟩
      · have z' := (if_neg hb).symm.trans z
        cases z'
    · by_cases hb : b = a
      · exact hb
      · exact absurd (if_neg hb) z
end L2

namespace L2
open PySem PySem.Spec PyProof.Rows

abbrev KOf {K : PySem.W.Frag} {h : Heap} (_ : K.In h) : PySem.W.Frag := K

theorem walk_of {l : PySem.W.OpenLaw} {n k : Nat} {q : Program} {loose : List Str} {XP : (Str → Option Value) → Heap → Prop} {YP : World → Heap → Prop} {d : DefRec} {K : Params → PySem.W.Frag} {CX : World → CXT} {sp : World → Sp} {x : Str}
    (hn : l.most = some n) (hn2 : n ≤ sizeLine) (hdf : d.params.defaults = []) (hr : Room k callerA)
    (hY : ∀ (w : World) (h : Heap), YP w h → (K w.params).In h)
    (F : ∀ (w : World) (mg : Str → Option Value) (fa : Addr) (h : Heap), (K w.params).In h → h.Ns mainGlobals mg → mg d.name = some (.ref fa) →
      ∃ fd : FuncData, (∀ (s : Shared) (u : Value), BindsTo s fd ⟨[u], []⟩ [(x, u)]) ∧
        ∀ base : Heap, (K w.params).In base → base.Ns mainGlobals mg → FnOk l.prog w (K w.params) mg base (CX w) k fa fd [x] (sp w))
    (hsp : ∀ (w : World) (H : Hp) (a : Addr) (ns : List Int), ns.length ≤ n → Only H → SqL (K w.params) H a (ns.map V.int) → sp w [.ref a] H (fun v _ => v = .bl true) fun _ _ _ => False)
    (hCX : ∀ (w : World) (H : Hp) (s : Shared) (e : Value) (s' : Shared), CX w [] H s (fun _ _ _ => False) e s' → False) :
    PySem.W.WalkO q loose XP YP l.row.toRowW d [] (fun f vs => PySem.call f vs) := by
  refine Att.attach_call hn hdf fun w s₀ s₁ mg mb fa o pm cd doc a vs ns G Y ho hd hcd hmg hobj hints hlen hasy hg => ?_
  have KX := hY w _ Y
  obtain ⟨fd, hb, hF⟩ := F w mg fa _ KX G.T.g hmg
  exact law_call KX G.T.g G.T.b G.T.builtins G.T.nolimit hg hobj hints (Nat.le_trans hlen hn2) hasy hr hF hb (fun H hO hS => hsp w H a ns hlen hO hS) fun H e s' => hCX w H s₁ e s'
theorem walk_ofK {l : PySem.W.OpenLaw} {n k : Nat} {q : Program} {loose : List Str} {XP : (Str → Option Value) → Heap → Prop} {YP : World → Heap → Prop} {d : DefRec} {K : Params → PySem.W.Frag} {CX : CXT} {sp : PySem.W.Frag → Sp} {x : Str}
    (hn : l.most = some n) (hn2 : n ≤ sizeLine) (hdf : d.params.defaults = []) (hr : Room k callerA)
    (hY : ∀ (w : World) (h : Heap), YP w h → (K w.params).In h)
    (F : ∀ (w : World) (mg : Str → Option Value) (fa : Addr) (h : Heap), (K w.params).In h → h.Ns mainGlobals mg → mg d.name = some (.ref fa) →
      ∃ fd : FuncData, (∀ (s : Shared) (u : Value), BindsTo s fd ⟨[u], []⟩ [(x, u)]) ∧
        ∀ base : Heap, (K w.params).In base → base.Ns mainGlobals mg → FnOk l.prog w (K w.params) mg base CX k fa fd [x] (sp (K w.params)))
    (hsp : ∀ (K : PySem.W.Frag) (H : Hp) (a : Addr) (ns : List Int), ns.length ≤ n → Only H → SqL K H a (ns.map V.int) → sp K [.ref a] H (fun v _ => v = .bl true) fun _ _ _ => False)
    (hCX : ∀ (H : Hp) (s : Shared) (e : Value) (s' : Shared), CX [] H s (fun _ _ _ => False) e s' → False) :
    PySem.W.WalkO q loose XP YP l.row.toRowW d [] (fun f vs => PySem.call f vs) :=
  walk_of (K := K) (CX := fun _ => CX) (sp := fun w => sp (K w.params)) hn hn2 hdf hr hY F (fun w H a ns h1 h2 h3 => hsp (K w.params) H a ns h1 h2 h3) fun _ H s e s' => hCX H s e s'
end L2

/- THE LAST THEOREM (shape; LID, My.* are yours):
   My.Adr: a structure of the addresses that your layer names (classes, functions); My.Txt K t: a structure (Prop) of the equations over K;
   My.txt_mk : {K} {implicit addresses ..} (e1 : nsIn K mainGlobals "law" = some (some (.ref f))) (e2 : K.lookup f = some ⟨oc, od, .func (fnOf "law" "law" params body scope dV kV doc pm an cdv ct), sl⟩) (e3 : codeIn K cdv "law" = true) .. : ∃ t, My.Txt K t

set_option maxRecDepth 100000 in
set_option maxHeartbeats 0 in
theorem PySem.Challenge.cw_LID_holds : PySem.Challenge.rw_LID.Holds := by
  w_on; o_law; k_head; (case hw => w_witness2)
  k_fill
  refine L2.walk_of (l := PySem.Challenge.rw_LID) (n := 63) (k := 40) (x := "script") (CX := fun w => ..) (sp := fun _ => My.sp_law) rfl (by decide) rfl ⟨rfl, by decide, by decide⟩ (fun w h Y => PySem.W.kIn_of Y) ?F ?S ?C
  case F =>
    intro w mg fa h KX G hmg
    have T : ∃ t, My.Txt (L2.KOf KX) t := by
      dsimp only [L2.KOf]                          -- K must stand as «<heap const> w.params» for k_is
      refine' My.txt_mk ?e1 ?e2 ?e3 ..
      (case e1 => PySem.W.k_is)                    -- in the order: a name -> its address -> its object -> its parts
      (case e2 => PySem.W.k_is)
      ..
    obtain ⟨t, T⟩ := T
    have e0 := hmg.symm.trans (PySem.W.mg_of KX G T.law)
    cases e0                                       -- fa is the law's own address
    exact ⟨_, fun s u => .of_eq rfl, fun base kb nb => My.law_fn T kb nb⟩     -- if «.of_eq rfl» comes too early: refine' ⟨_, ?b, fun base kb nb => My.law_fn T kb nb⟩; exact fun s u => .of_eq rfl
  case S => exact fun w H a ns hl hO hS => ..
  case C => exact ..
(the tactic k_is has no namespace: write k_is) -/

namespace L2
open PySem PySem.Spec PyProof.Rows

def defArgs (s : Stmt) : Arguments := match s with
  | .FunctionDef _ a _ _ _ _ _ _ _ _ => a
  | _ => { posonlyargs := [], args := [], vararg := none, kwonlyargs := [], kw_defaults := [], kwarg := none, defaults := [] }
def defBody (s : Stmt) : List Stmt := match s with
  | .FunctionDef _ _ b _ _ _ _ _ _ _ => b
  | _ => []
def defScope (s : Stmt) : Scope := match s with
  | .FunctionDef _ _ _ _ _ _ sc _ _ _ => sc
  | _ => { kind := .function, names := [], isGenerator := false, isCoroutine := false }

abbrev CX0 : CXT := fun _ _ _ _ _ _ => False
abbrev E0 : XK := fun _ _ _ => False
theorem pass0 {X : Cx} : Passes CX0 X E0 := fun _ _ _ _ _ _ _ h => h.elim

structure Fun (K : PySem.W.Frag) (x qual : Str) (st : Stmt) (f : Addr) (fd : FuncData) : Prop where
  ex : ∃ (oc : Value) (od : Option Addr) (kV doc pm : Value) (an : Option Addr) (cdv ct : Value) (osl : Array (Option Value)),
    fd = PySem.W.fnOf x qual (defArgs st) (defBody st) (defScope st) .none kV doc pm an cdv ct ∧ K.lookup f = some ⟨oc, od, .func fd, osl⟩ ∧ PySem.W.codeIn K cdv qual = true
  kp : PySem.W.keepIn K (.ref f) = true
section
variable {P : Program} {w : World} {K : PySem.W.Frag} {mg : Str → Option Value} {base : Heap}
theorem Fun.ok {x qual : Str} {st : Stmt} {f : Addr} {fd : FuncData} {N ps : List Str} {k : Nat} {sp : Sp} (F : Fun K x qual st f fd) (S : FnScope N ps (defScope st)) (len : ∀ vs H Q E, sp vs H Q E → vs.length = ps.length)
    (hbody : ∀ (cdv : Value) (A : Around) (outer : List Env) (s : Shared) (H : Hp) (vs : List V) (Q : VK) (E : XK), Room k (A.deeper (envOfC qual (defScope st) s.heap.objs.size f cdv)) → sp vs H Q E →
      ∃ t, PSs (cxOf CX0 P w K mg base N qual (defScope st) f cdv A outer s H E).nox (defBody st) t ∧ t { nx := fun _ H' => Q .non H', rt := Q } (start N vs) H) : FnOk P w K mg base CX0 (k + 1) f fd ps sp := by
  obtain ⟨oc, od, kV, doc, pm, an, cdv, ct, osl, rfl, lk, hcd⟩ := F.ex
  refine fn_of lk hcd S len fun A outer s H vs Q E hr hsp => ?_
  obtain ⟨t, h, q⟩ := hbody cdv A outer s H vs Q E hr hsp
  exact ⟨t, h.nox, q⟩
theorem Fun.binds {x qual : Str} {st : Stmt} {f : Addr} {fd : FuncData} {ps : List Str} (F : Fun K x qual st f fd)
    (h : ∀ (kV doc pm : Value) (an : Option Addr) (cdv ct : Value) (us : List Value), us.length = ps.length → bindArgs (PySem.W.fnOf x qual (defArgs st) (defBody st) (defScope st) .none kV doc pm an cdv ct) ⟨us, []⟩ = pure (ps.zip us)) : Binds K fd ps [] := by
  obtain ⟨oc, od, kV, doc, pm, an, cdv, ct, osl, rfl, lk, hcd⟩ := F.ex
  exact .all (h kV doc pm an cdv ct)
theorem fun_mk {x qual : Str} {st : Stmt} {f : Addr} {oc : Value} {od an : Option Addr} {osl : Array (Option Value)} {kV doc pm cdv ct : Value} (l : K.lookup f = some ⟨oc, od, .func (PySem.W.fnOf x qual (defArgs st) (defBody st) (defScope st) .none kV doc pm an cdv ct), osl⟩)
    (c : PySem.W.codeIn K cdv qual = true) (k : PySem.W.keepIn K (.ref f) = true) : Fun K x qual st f (PySem.W.fnOf x qual (defArgs st) (defBody st) (defScope st) .none kV doc pm an cdv ct) := ⟨⟨oc, od, kV, doc, pm, an, cdv, ct, osl, rfl, l, c⟩, k⟩
end
theorem small1000 {n : Nat} (h : n ≤ 1000) : n < sizeLine := Nat.lt_of_le_of_lt h (by decide)

section
variable {X : Cx}
end

def Same (H H' : Hp) : Prop := ∀ b o, H b = some o → H' b = some o
theorem Same.refl (H : Hp) : Same H H := fun _ _ h => h
theorem Same.trans {H H1 H2 : Hp} (a : Same H H1) (b : Same H1 H2) : Same H H2 := fun c o h => b c o (a c o h)
theorem Same.free {H H' : Hp} (e : Same H H') {l : Addr} (h : H' l = Option.none) : H l = Option.none := by
  cases q : H l with
  | none => rfl
  | some o =>
    rw [e l o q] at h
    cases h
theorem Same.seq {K : PySem.W.Frag} {H H' : Hp} {a : Addr} {xs : List V} (e : Same H H') (h : SqL K H a xs) : SqL K H' a xs := by
  rcases h with (h | ⟨o, h⟩) | h
  · exact .inl (.inl (e _ _ h))
  · exact .inl (.inr ⟨o, e _ _ h⟩)
  · exact .inr h

end L2
end
section
namespace SetP
open PySem

def Rise (xs : Array Nat) : Prop := xs.toList.Pairwise (· < ·)
theorem rise_nil : Rise #[] := List.Pairwise.nil
theorem Rise.lt {xs : Array Nat} (h : Rise xs) {i k : Nat} (hik : i < k) (hk : k < xs.size) : xs.getD i 0 < xs.getD k 0 := by
  have q := List.pairwise_iff_getElem.mp h i k (by rw [Array.length_toList]; omega) (by rw [Array.length_toList]; exact hk) hik
  rw [Array.getD_eq_getD_getElem?, Array.getD_eq_getD_getElem?, Array.getElem?_eq_getElem (by omega), Array.getElem?_eq_getElem hk]
  simpa using q
theorem Rise.le {xs : Array Nat} (h : Rise xs) {i k : Nat} (hik : i ≤ k) (hk : k < xs.size) : xs.getD i 0 ≤ xs.getD k 0 := by
  rcases Nat.lt_or_eq_of_le hik with z | z
  · exact Nat.le_of_lt (h.lt z hk)
  · rw [z]; exact Nat.le_refl _

def TabOk (L : Bool) (t : SetTable) : Prop := Rise t.place ∧ t.led = L
theorem TabOk.fresh (L : Bool) (f m : Nat) : TabOk L (.fresh f m L) := ⟨rise_nil, rfl⟩
end SetP
end
section
set_option maxRecDepth 100000
namespace SetP
open PySem PyProof.Rows

abbrev ledOf (w : World) : Bool := !(w.params.followText "set-order")

structure SetT (prog : Program) (w : World) (h : Heap) (a : Addr) (ds : List Int) : Prop where
  nd : ds.Nodup
  ex : ∃ o es ep t, h.get? a = some o ∧ o.ExactSet ∧ o.data = .set es ep t ∧ ElemsOf (intKind prog w) es.toList ∧ (∀ k, decide (k ∈ ds) = true ↔ ∃ e ∈ es.toList, (intKind prog w).is k e.2 = true) ∧
    es.size < scanBound ∧ t.fits es.size = true ∧ es.size = ds.length ∧ TabOk (ledOf w) t
def addTo (ds : List Int) (k : Int) : List Int := if k ∈ ds then ds else ds ++ [k]
section
variable {prog : Program} {w : World} {A : Around} {E : Value → Shared → Prop} {s : Shared}

theorem SetT.sameBut {h h' : Heap} {a : Addr} {ds : List Int} (x : SetT prog w h a ds) (hs : ∀ o, h.get? a = some o → h'.get? a = some o) : SetT prog w h' a ds := by
  obtain ⟨nd, o, es, ep, t, e, r⟩ := x
  exact ⟨nd, o, es, ep, t, hs o e, r⟩
theorem SetT.stored {h : Heap} {a : Addr} {o : Obj} {es es' : Array (Int × Value)} {ep : Nat} {t t' : SetTable} {ds : List Int} (ho : h.get? a = some o) (hex : o.ExactSet) (hd : o.data = .set es ep t) (nd : ds.Nodup)
    (hel : ElemsOf (intKind prog w) es'.toList) (hm : ∀ k, decide (k ∈ ds) = true ↔ ∃ e ∈ es'.toList, (intKind prog w).is k e.2 = true) (hb : es'.size < scanBound) (hf : t'.fits es'.size = true) (hn : es'.size = ds.length) (ht : TabOk (ledOf w) t') :
    (h.update a (Obj.putSet es' t')).get? a = some { o with data := .set es' (ep + 1) t' } ∧ SetT prog w (h.update a (Obj.putSet es' t')) a ds := by
  obtain ⟨g, _⟩ := SetOf_store (knd := intKind prog w) ho hex hd hel hm hb hf
  exact ⟨g, nd, _, es', ep + 1, t', g, hex, rfl, hel, hm, hb, hf, hn, ht⟩

end
end SetP
end
section
set_option maxRecDepth 100000
namespace SetP
open PySem PyProof.Rows

def once (ns : List Int) : List Int := ns.foldl addTo []
section
variable {prog : Program} {w : World} {A : Around} {E : Value → Shared → Prop} {s : Shared}

set_option maxHeartbeats 3200000 in
end
end SetP
end
section
set_option maxRecDepth 100000
namespace SetP
open PySem PyProof.Rows

section
variable {M : Model} {A : Around} {E : Value → Shared → Prop}
end

def itObj (first : Value) (i : Nat) (S : Addr) (n ep : Nat) : Obj := { cls := .type "set_iterator", data := .fields #[first, .int i 0, .ref S, .int n 0, .int ep 0] }

inductive Road (w : World) (h : Heap) (es : Array (Int × Value)) (ep : Nat) (t : SetTable) (S it T : Addr) (vs : List Value) (i : Nat) : Value → Prop
  | text (k : Int) : w.params.followText "set-order" = true → (∀ (j : Nat), vs[j]? = ((pickOrder (w.params.setOrder S ep) es)[j]?).map fun (e : Int × Value) => e.2) → Road w h es ep t S it T vs i (.int k 0)
  | plain : w.params.followText "set-order" = false → (!t.plain && decide (es.size > 1)) = false → TabOk true t → (∀ (j : Nat), vs[j]? = (es[j]?).map fun (e : Int × Value) => e.2) → Road w h es ep t S it T vs i (.int ((if i = 0 then 0 else t.place.getD (i - 1) 0 + 1 : Nat) : Int) 0)
  | drawn (ps : List Nat) : T ≠ it → h.get? T = some { cls := .type "tuple", data := .seq (ps.map fun (p : Nat) => rawInt p).toArray 0 } → (∀ p ∈ ps, p < es.size) → (∀ (j : Nat), vs[j]? = (ps[j]?).bind fun p => (es[p]?).map fun (e : Int × Value) => e.2) → Road w h es ep t S it T vs i (.ref T)
structure SetIt (w : World) (h : Heap) (it S T : Addr) (vs : List Value) (i : Nat) : Prop where
  ne : it ≠ S
  ex : ∃ o es ep t first, h.get? S = some o ∧ o.data = .set es ep t ∧ t.fits es.size = true ∧ vs.length = es.size ∧ h.get? it = some (itObj first i S es.size ep) ∧ Road w h es ep t S it T vs i first

section
variable {prog : Program} {w : World} {A : Around} {E : Value → Shared → Prop} {s : Shared}

theorem SetIt.keep {h h' : Heap} {it S T : Addr} {vs : List Value} {i : Nat} (x : SetIt w h it S T vs i) (k : ∀ b ∈ [it, S, T], ∀ o, h.get? b = some o → h'.get? b = some o) : SetIt w h' it S T vs i := by
  obtain ⟨ne, o, es, ep, t, first, a, b, c, d, e, r⟩ := x
  refine ⟨ne, o, es, ep, t, first, k S (by simp) _ a, b, c, d, k it (by simp) _ e, ?_⟩
  cases r with
  | text k1 z1 z2 => exact .text k1 z1 z2
  | plain z1 z2 z3 z4 => exact .plain z1 z2 z3 z4
  | drawn ps z1 z2 z3 z4 => exact .drawn ps z1 (k T (by simp) _ z2) z3 z4

end
end SetP
end
section
set_option maxRecDepth 100000
namespace SetP
open PySem PyProof.Rows

section
variable {prog : Program} {w : World} {A : Around} {E : Value → Shared → Prop} {s : Shared}

end
end SetP
end
section
set_option maxRecDepth 100000
namespace SetP
open PySem PyProof.Rows

section
variable {prog : Program} {w : World} {A : Around} {E : Value → Shared → Prop} {s : Shared}

end
end SetP
end
section
set_option Elab.async false
set_option maxRecDepth 10000
set_option linter.all false
namespace L2
open PySem PySem.Spec PyProof.Rows

def PTs (X : Cx) (ifs : List Expr) (t : TT) : Prop :=
  ∀ (pins : List (Addr × Obj)) (s : Shared) (σ : St) (H : Hp) (Q : Bool → Hp → Prop), Inv X pins σ H s → t σ H Q →
    wpAny (model X.prog X.w) X.A (forIn ifs true fun c r => if r = true then do let ok ← isTrue c X.env (eval c X.env); pure (ForInStep.yield ok) else pure (ForInStep.yield r)) (TP X pins σ Q) X.xe s
def tYes : TT := fun _ H Q => Q true H
theorem pts_nil {X : Cx} : PTs X [] tYes := fun _ _ _ H _ I h => wpAny_pure ⟨H, I, h⟩
theorem pts_one {X : Cx} {c : Expr} {t : TT} (h : PT X c t) : PTs X [c] t := by
  intro pins s σ H Q I hw
  rw [List.forIn_cons]
  simp only [if_true]
  refine wpAny_bind (wpAny_bind (thn (h pins s σ H Q I hw) fun b s1 hb => wpAny_pure ?_))
  show wpAny _ _ (pure b) _ _ _
  exact wpAny_pure hb

def Low (k : Nat) (g : TG) : Prop := ∀ x σ H Q, g x σ H Q → g x σ H fun σ' H' => Q σ' H' ∧ σ'.length = σ.length ∧ ∀ j, k ≤ j → σ'[j]? = σ[j]?
def LowS (k : Nat) (g : TGs) : Prop := ∀ x σ H Q, g x σ H Q → g x σ H fun σ' H' => Q σ' H' ∧ σ'.length = σ.length ∧ ∀ j, k ≤ j → σ'[j]? = σ[j]?
theorem low_name {k i : Nat} (h : i < k) : Low k (gName i) := fun x σ H Q q =>
  ⟨q, List.length_set .., fun j hj => List.getElem?_set_ne (by omega)⟩
theorem low_nil {k : Nat} : LowS k gNil := fun _ _ _ _ ⟨e, q⟩ => ⟨e, q, rfl, fun _ _ => rfl⟩
theorem low_cons {k : Nat} {t : TG} {u : TGs} (ht : Low k t) (hu : LowS k u) (mono : ∀ x σ H Q Q', (∀ σ' H', Q σ' H' → Q' σ' H') → t x σ H Q → t x σ H Q')
    (monoU : ∀ x σ H Q Q', (∀ σ' H', Q σ' H' → Q' σ' H') → u x σ H Q → u x σ H Q') : LowS k (gCons t u) := fun x σ H Q ⟨v, r, e, q⟩ => by
  refine ⟨v, r, e, mono v σ H _ _ (fun σ1 H1 z => ?_) (ht v σ H _ q)⟩
  obtain ⟨z1, z2, z3⟩ := z
  exact monoU r σ1 H1 _ _ (fun σ2 H2 y => ⟨y.1, y.2.1.trans z2, fun j hj => (y.2.2 j hj).trans (z3 j hj)⟩) (hu r σ1 H1 _ z1)
theorem low_tup {K : PySem.W.Frag} {n k : Nat} {t : TGs} (h : LowS k t) : Low k (gTup K n t) := fun x σ H Q ⟨a, xs, e, hs, hl, q⟩ => ⟨a, xs, e, hs, hl, h xs σ H Q q⟩
def compLook (sc : Scope) (N N2 : List Str) (k : Nat) (caps : List Nat) (scope : Scope) : Bool :=
  decide (scope.kind = .function) && scope.names.all (fun y => decide (y.2 ≠ .cell) || decide (scope.names.lookup y.1 = some .cell)) && scope.names.all (fun y => decide (y.2 ≠ .local) || decide (scope.names.lookup y.1 = some .local)) &&
  scope.names.all (fun y => decide (y.2 ≠ .free) || decide (sc.names.lookup y.1 = some .cell) || decide (sc.names.lookup y.1 = some .free)) && decide N2.Nodup && decide (N2.length = k + caps.length) &&
  (List.range caps.length).all fun j => match caps[j]?, N2[k + j]? with
    | some i, some y => decide (N[i]? = some y) && decide (scope.names.lookup y = some .free)
    | _, _ => false
structure CompOk (sc : Scope) (N N2 : List Str) (k : Nat) (caps : List Nat) (scope : Scope) : Prop where
  kind : scope.kind = .function
  one : ∀ y ∈ scope.names, y.2 = .cell → scope.names.lookup y.1 = some .cell
  loc : ∀ y ∈ scope.names, y.2 = .local → scope.names.lookup y.1 = some .local
  free : ∀ y ∈ scope.names, y.2 = .free → sc.names.lookup y.1 = some .cell ∨ sc.names.lookup y.1 = some .free
  nd : N2.Nodup
  len : N2.length = k + caps.length
  cap : ∀ j i, caps[j]? = some i → ∃ y, N2[k + j]? = some y ∧ N[i]? = some y ∧ scope.names.lookup y = some .free
theorem CompOk.of {sc : Scope} {N N2 : List Str} {k : Nat} {caps : List Nat} {scope : Scope} (h : compLook sc N N2 k caps scope = true) : CompOk sc N N2 k caps scope := by
  unfold compLook at h
  simp only [Bool.and_eq_true, List.all_eq_true, Bool.or_eq_true, decide_eq_true_eq] at h
  obtain ⟨⟨⟨⟨⟨⟨h1, h2⟩, h3⟩, h4⟩, h5⟩, h6⟩, h7⟩ := h
  refine ⟨h1, fun y hy e => ?_, fun y hy e => ?_, fun y hy e => ?_, h5, h6, fun j i e => ?_⟩
  · rcases h2 y hy with z | z
    · exact absurd e z
    · exact z
  · rcases h3 y hy with z | z
    · exact absurd e z
    · exact z
  · rcases h4 y hy with (z | z) | z
    · exact absurd e z
    · exact .inl z
    · exact .inr z
  · have hj : j ∈ List.range caps.length := List.mem_range.mpr (List.getElem?_eq_some_iff.mp e).1
    have q := h7 j hj
    rw [e] at q
    cases hy : N2[k + j]? with
    | none => rw [hy] at q; exact absurd q (by simp)
    | some y =>
      rw [hy] at q
      simp only [Bool.and_eq_true, decide_eq_true_eq] at q
      exact ⟨y, rfl, q.1, q.2⟩

theorem relabel_free {env : Env} : ∀ {names : List (Str × NameKind)} {x : Str}, names.lookup x = some .free →
    (names.map fun (n, k) => if (k == NameKind.free && env.scope.kind == .function && env.kindOf n == some .cell) then (n, NameKind.cell) else (n, k)).lookup x = some .cell ∨
    (names.map fun (n, k) => if (k == NameKind.free && env.scope.kind == .function && env.kindOf n == some .cell) then (n, NameKind.cell) else (n, k)).lookup x = some .free
  | [], _, h => by simp at h
  | (n, k) :: r, x, h => by
    have ih := @relabel_free env r x
    show List.lookup x ((if (k == NameKind.free && env.scope.kind == .function && env.kindOf n == some .cell) = true then (n, NameKind.cell) else (n, k)) :: _) = _ ∨ List.lookup x ((if (k == NameKind.free && env.scope.kind == .function && env.kindOf n == some .cell) = true then (n, NameKind.cell) else (n, k)) :: _) = _
    cases hx : x == n with
    | true =>
      simp only [List.lookup_cons, hx] at h
      cases h
      by_cases hc : (NameKind.free == NameKind.free && env.scope.kind == .function && env.kindOf n == some .cell) = true
      · rw [if_pos hc]; left; simp only [List.lookup_cons, hx]
      · rw [if_neg hc]; right; simp only [List.lookup_cons, hx]
    | false =>
      simp only [List.lookup_cons, hx] at h
      by_cases hc : (k == NameKind.free && env.scope.kind == .function && env.kindOf n == some .cell) = true
      · rw [if_pos hc]; simp only [List.lookup_cons, hx]; exact ih h
      · rw [if_neg hc]; simp only [List.lookup_cons, hx]; exact ih h
theorem relabel_back {env : Env} : ∀ {names : List (Str × NameKind)} {x : Str},
    ((names.map fun (n, k) => if (k == NameKind.free && env.scope.kind == .function && env.kindOf n == some .cell) then (n, NameKind.cell) else (n, k)).lookup x = some .cell ∨
     (names.map fun (n, k) => if (k == NameKind.free && env.scope.kind == .function && env.kindOf n == some .cell) then (n, NameKind.cell) else (n, k)).lookup x = some .free) → names.lookup x = some .free ∨ names.lookup x = some .cell
  | [], _, h => by simp at h
  | (n, k) :: r, x, h => by
    have ih := @relabel_back env r x
    cases hx : x == n with
    | true =>
      simp only [List.lookup_cons, hx]
      by_cases hf : k = .free
      · rw [hf]; exact .inl rfl
      · have hkf : (k == NameKind.free) = false := by
          cases k <;> first | rfl | exact absurd rfl hf
        simp only [List.map_cons, hkf, Bool.false_and, Bool.false_eq_true, if_false, List.lookup_cons, hx] at h
        rcases h with z | z
        · exact .inr z
        · exact absurd (Option.some.inj z) hf
    | false =>
      simp only [List.lookup_cons, hx]
      refine ih ?_
      have h' : List.lookup x ((if (k == NameKind.free && env.scope.kind == .function && env.kindOf n == some .cell) = true then (n, NameKind.cell) else (n, k)) :: List.map _ r) = some .cell ∨ List.lookup x ((if (k == NameKind.free && env.scope.kind == .function && env.kindOf n == some .cell) = true then (n, NameKind.cell) else (n, k)) :: List.map _ r) = some .free := h
      by_cases hcc : (k == NameKind.free && env.scope.kind == .function && env.kindOf n == some .cell) = true
      · rw [if_pos hcc] at h'; simp only [List.lookup_cons, hx] at h'; exact h'
      · rw [if_neg hcc] at h'; simp only [List.lookup_cons, hx] at h'; exact h'

theorem cellsFrom_app : ∀ (names : List (Str × NameKind)) (n : Nat) (acc : List (Str × Addr)), cellsFrom n names acc = cellsFrom n names [] ++ acc
  | [], _, _ => rfl
  | (x, k) :: r, n, acc => by
    unfold cellsFrom
    split
    · rw [cellsFrom_app r (n + 1) ((x, n) :: acc), cellsFrom_app r (n + 1) [(x, n)], List.append_assoc]; rfl
    · exact cellsFrom_app r n acc
theorem cellsFrom_mem : ∀ (names : List (Str × NameKind)) (n : Nat) {x : Str} {c : Addr}, (x, c) ∈ cellsFrom n names [] → (x, NameKind.cell) ∈ names
  | [], _, _, _, h => by simp [cellsFrom] at h
  | (y, k) :: r, n, x, c, h => by
    unfold cellsFrom at h
    split at h
    · rename_i hk
      rw [cellsFrom_app] at h
      rcases List.mem_append.mp h with z | z
      · exact List.mem_cons_of_mem _ (cellsFrom_mem r (n + 1) z)
      · have z' : (x, c) = (y, n) := by simpa using z
        have hk' : k = .cell := by simpa using hk
        cases z'
        rw [hk']; exact List.mem_cons_self
    · exact List.mem_cons_of_mem _ (cellsFrom_mem r n h)
theorem lookup_app {cs ds : List (Str × Addr)} {x : Str} {c : Addr} (h : (cs ++ ds).lookup x = some c) : cs.lookup x = some c ∨ (cs.lookup x = none ∧ ds.lookup x = some c) := by
  rw [List.lookup_append] at h
  cases e : cs.lookup x with
  | none => rw [e] at h; exact .inr ⟨rfl, h⟩
  | some d => rw [e] at h; exact .inl h
theorem newEnv_comp {M : Model} {A : Around} {E : Value → Shared → Prop} {s : Shared} {scope : Scope} {globals : Addr} {cl : List (Str × Addr)} {qual : Str} {env : Env} {Q : Env → Shared → Prop}
    (hQ : ∀ h' : Heap, h'.Ns s.heap.objs.size (fun _ => none) → (∀ b o, s.heap.get? b = some o → h'.get? b = some o) → CellsOk h' (s.heap.objs.size + 1) (cellsFrom (s.heap.objs.size + 1) scope.names []) →
      Q { scope, locals := s.heap.objs.size, globals, cells := cellsFrom (s.heap.objs.size + 1) scope.names [] ++ cl, qual, func := none, code := env.code, frame := env.frame, builtins := env.builtins } { s with heap := h' }) :
    wpAny M A (newFunctionEnv scope globals cl [] qual none .none (some env)) Q E s := by
  simp only [newFunctionEnv, Option.isSome_some, if_true]
  refine wpAny_bind (wpAny_alloc ?_)
  refine wpAny_bind (wpAny_layCells _ (fun name kind cells => by cases hkc : kind == NameKind.cell <;> simp [hkc]) _ _ _ _ ?_)
  rw [show ({ s with heap := s.heap.push { cls := .type "dict", data := .dict #[] } } : Shared).heap.objs.size = s.heap.objs.size + 1 from Heap.size_push ..]
  have ok := cellsFrom_ok scope.names (s.heap.push { cls := .type "dict", data := .dict #[] }) (s.heap.objs.size + 1) [] ⟨fun _ _ hm => (nomatch hm), List.Pairwise.nil⟩ (by rw [Heap.size_push]; exact Nat.le_refl _)
  rw [Heap.size_push] at ok
  rw [cellsFrom_app]
  refine wpAny_bind ?_
  rw [List.forIn_nil]
  refine wpAny_pure (wpAny_pure (hQ _ ?_ ?_ ok))
  · exact (Heap.Ns.new s.heap (.type "dict")).keeps (pushCells_keeps _ _)
  · exact fun b o e => pushCells_keeps _ _ b o (Heap.get?_push_of_some _ e)

theorem closure_of {scope : Scope} {env : Env} (h : ∀ y ∈ scope.names, y.2 = .free → ∃ c, env.cells.lookup y.1 = some c) :
    ∃ cl, closureFor scope env = pure cl ∧ (∀ x c, cl.lookup x = some c → env.cells.lookup x = some c) ∧ ∀ x, scope.names.lookup x = some .free → ∃ c, cl.lookup x = some c := by
  have all : ∀ (names : List (Str × NameKind)) (cs : List (Str × Addr)), (∀ y ∈ names, y.2 = .free → ∃ c, env.cells.lookup y.1 = some c) → (∀ x c, cs.lookup x = some c → env.cells.lookup x = some c) →
      ∃ cl, (forIn names cs (fun (x : Str × NameKind) (cs : List (Str × Addr)) => (match x with
          | (name, kind) => if (kind == NameKind.free) = true then (cellOf env name >>= fun a => pure (ForInStep.yield ((name, a) :: cs))) else pure (ForInStep.yield cs) : Sem (ForInStep (List (Str × Addr)))) ) : Sem (List (Str × Addr))) = pure cl ∧
        (∀ x c, cl.lookup x = some c → env.cells.lookup x = some c) ∧ (∀ x c, cs.lookup x = some c → ∃ c', cl.lookup x = some c') ∧ ∀ x, names.lookup x = some .free → ∃ c, cl.lookup x = some c := by
    intro names
    induction names with
    | nil => intro cs _ hc; exact ⟨cs, rfl, hc, fun x c e => ⟨c, e⟩, fun x e => by simp at e⟩
    | cons y r ih =>
      intro cs hy hc
      obtain ⟨n, kd⟩ := y
      by_cases hk : kd = .free
      · subst hk
        obtain ⟨c, hcn⟩ := hy (n, .free) List.mem_cons_self rfl
        have hc' : ∀ x c', ((n, c) :: cs).lookup x = some c' → env.cells.lookup x = some c' := fun x c' e => by
          rw [List.lookup_cons] at e
          cases hx : x == n with
          | true =>
            rw [hx] at e
            have hxn : x = n := by simpa using hx
            rw [hxn, hcn]; exact e
          | false => rw [hx] at e; exact hc x c' e
        obtain ⟨cl, e1, e2, e3, e4⟩ := ih ((n, c) :: cs) (fun z hz => hy z (List.mem_cons_of_mem _ hz)) hc'
        refine ⟨cl, ?_, e2, fun x c' e => ?_, fun x e => ?_⟩
        · rw [List.forIn_cons]
          have hb : (NameKind.free == NameKind.free) = true := rfl
          simp only [hb, if_true, cellOf, hcn, pure_bind]
          exact e1
        · by_cases hx : (x == n) = true
          · exact e3 x c (by rw [List.lookup_cons, hx])
          · have hx' : (x == n) = false := by simpa using hx
            exact e3 x c' (by rw [List.lookup_cons, hx']; exact e)
        · rw [List.lookup_cons] at e
          cases hx : x == n with
          | true => exact e3 x c (by rw [List.lookup_cons, hx])
          | false => rw [hx] at e; exact e4 x e
      · have hb : (kd == NameKind.free) = false := by
          cases kd <;> first | rfl | exact absurd rfl hk
        obtain ⟨cl, e1, e2, e3, e4⟩ := ih cs (fun z hz => hy z (List.mem_cons_of_mem _ hz)) hc
        refine ⟨cl, ?_, e2, e3, fun x e => ?_⟩
        · rw [List.forIn_cons]
          simp only [hb, Bool.false_eq_true, if_false, pure_bind]
          exact e1
        · rw [List.lookup_cons] at e
          cases hx : x == n with
          | true => rw [hx] at e; exact absurd (Option.some.inj e) hk
          | false => rw [hx] at e; exact e4 x e
  obtain ⟨cl, e1, e2, _, e4⟩ := all scope.names [] h (fun x c e => by simp at e)
  refine ⟨cl, ?_, e2, e4⟩
  unfold closureFor
  rw [← bind_pure (pure cl : Sem _), ← e1]

abbrev compCx (X : Cx) (N2 : List Str) (scope : Scope) (cl : List (Str × Addr)) (C : Addr) (s : Shared) (H : Hp) (ex : List Addr) : Cx :=
  { X with N := N2, s₀ := s, H₀ := H, env := compEnvC scope cl C X.env, outer := X.stack, ex := ex, fn := fun x => decide (scope.names.lookup x = some .cell), pn := [], xe := fun _ _ => False }
def capS (k : Nat) (caps : List Nat) (σ : St) : St := List.replicate k none ++ caps.map fun j => (σ[j]?).join

def CompW (J : It) (k : Nat) (caps : List Nat) (σ : St) (g : TG) (tt : TT) (te : TE) (Q : VK) (H1 : Hp) : Prop := ∃ W : Nat → Nat → List V → Hp → Prop, (∃ m, W 0 m [] H1) ∧ ∀ i m ys H, W i m ys H →
  (J.stop i H ∧ ∀ p, H p = none → Q (.ref p) (upd H p (.lst ys))) ∨
  (J.go i H ∧ ys.length < sizeLine ∧ ∀ x H', J.yld i H x H' → g x (capS k caps σ) H' fun σ2 H2 => tt σ2 H2 fun b H3 =>
    if b = true then te σ2 H3 fun v H4 => ∃ m', m' < m ∧ W (i + 1) m' (ys ++ [v]) H4 else ∃ m', m' < m ∧ W (i + 1) m' ys H3)
def tComp (k : Nat) (caps : List Nat) (wi : TI) (g : TG) (tt : TT) (te : TE) : TE := fun σ H Q => wi σ H fun J H1 => CompW J k caps σ g tt te Q H1

theorem capS_ge {k : Nat} {caps : List Nat} {σ : St} {i : Nat} {v : V} (h : (capS k caps σ)[i]? = some (some v)) : ∃ j a, i = k + j ∧ caps[j]? = some a ∧ σ[a]? = some (some v) := by
  unfold capS at h
  by_cases hi : i < k
  · rw [List.getElem?_append_left (by simpa using hi), List.getElem?_replicate, if_pos hi] at h
    cases h
  · rw [List.getElem?_append_right (by simpa using hi), List.length_replicate, List.getElem?_map] at h
    cases e : caps[i - k]? with
    | none => rw [e] at h; cases h
    | some a =>
      rw [e] at h
      have h' : (σ[a]?).join = some v := Option.some.inj h
      refine ⟨i - k, a, by omega, e, ?_⟩
      cases e2 : σ[a]? with
      | none => rw [e2] at h'; cases h'
      | some o =>
        rw [e2] at h'
        cases o with
        | none => cases h'
        | some v' =>
          have h'' : some v' = some v := h'
          rw [h'']

theorem ad_ne {a b n : Nat} (h1 : a < n) (h2 : n ≤ b) : a ≠ b := by omega
section
variable {X : Cx} {pins : List (Addr × Obj)} {σ : St}

theorem Inv.but {H : Hp} {s : Shared} {C : Addr} {h' : Heap} (I : Inv X pins σ H s) (hb : Heap.SameBut C s.heap h') (hn : H C = none) (hL : C ≠ X.env.locals) (h1 : X.s₀.heap.objs.size ≤ C) (h2 : ∀ x c, X.env.cells.lookup x = some c → c ≠ C) (h3 : ∀ p ∈ X.pn ++ pins, p.1 ≠ C) :
    Inv X pins σ H { s with heap := h' } := I.turned (t' := s.toks) (fun b o hne e => (hb.2 b hne).trans e) hn hL (.inr h1) h2 h3

theorem comp_block {s2 : Shared} {H2 : Hp} {elt tg iter : Expr} {ifs : List Expr} {scope : Scope} {pos : Pos} {N2 : List Str} {k : Nat} {caps : List Nat} {cl : List (Str × Addr)} {g : TG} {tt : TT} {te : TE} {E : Value → Shared → Prop}
    {it : Addr} {fp : List Addr} {tn : Nat → Heap → Prop} {J : It} {RR : Value → Addr → Result → Shared → Prop} {Qe : List V → Hp → Prop} {W : Nat → Nat → List V → Hp → Prop} {m0 : Nat}
    (hc : X.calm = true) (hS : CompOk X.env.scope X.N N2 k caps scope) (hlow : Low k g)
    (hcl : ∀ x c, cl.lookup x = some c → X.env.cells.lookup x = some c) (hcf : ∀ x, scope.names.lookup x = some .free → ∃ c, cl.lookup x = some c)
    (hb : ∀ (cl : List (Str × Addr)) (C : Addr) (s : Shared) (H : Hp) (ex : List Addr), PG (compCx X N2 scope cl C s H ex) tg g ∧ PTs (compCx X N2 scope cl C s H ex) ifs tt ∧ PE (compCx X N2 scope cl C s H ex) elt te)
    (I2 : Inv X pins σ H2 s2) (T : Turn X.prog X.w X.K tg J fp it tn) (st2 : tn 0 s2.heap) (f2 : ∀ b ∈ fp, FpOk X pins H2 b) (w0 : W 0 m0 [] H2)
    (turn : ∀ i m ys H, W i m ys H → (J.stop i H ∧ Qe ys H) ∨
      (J.go i H ∧ ys.length < sizeLine ∧ ∀ x H', J.yld i H x H' → g x (capS k caps σ) H' fun σ2 H2 => tt σ2 H2 fun b H3 =>
        if b = true then te σ2 H3 fun v H4 => ∃ m', m' < m ∧ W (i + 1) m' (ys ++ [v]) H4 else ∃ m', m' < m ∧ W (i + 1) m' ys H3))
    (hRR : ∀ D C s' H' ys, s2.heap.objs.size ≤ D → s2.heap.objs.size ≤ C → C ≠ D → H' D = none → H' C = none → Inv X pins σ (upd H' D (.lst ys)) s' → (∃ m, s'.heap.Ns C m) → Qe ys H' → RR (.ref D) C (.ok .next) s') :
    wpAny (model X.prog X.w) X.A (newList []) (fun acc s₃ => wpAny (model X.prog X.w) X.A (newFunctionEnv scope X.env.globals cl [] X.env.qual none .none (some X.env)) (fun cenv s₄ =>
      codeAny (model X.prog X.w) X.A (.compStart (.ListComp elt [⟨tg, iter, ifs, 0⟩] scope pos) 0 (.ref it) acc { cenv with scope := relabel scope X.env }) (RR acc cenv.locals) s₄) E s₃) E s2 := by
  refine wpAny_newObj_type (newEnv_comp fun h₁ hns₁ kp cok => ?_)
  dsimp only at hns₁ kp cok ⊢
  generalize hH3 : s2.heap.push { cls := .type "list", dict := none, data := .seq ([] : List Value).toArray } = H3 at hns₁ kp cok ⊢
  have hC : H3.objs.size = s2.heap.objs.size + 1 := by rw [← hH3, Heap.size_push]
  generalize hDD : s2.heap.objs.size = D at hC
  generalize hCC : H3.objs.size = C at hns₁ cok hC ⊢
  have hDC : D ≠ C := by omega
  have szD : s2.heap.objs.size ≤ D := Nat.le_of_eq hDD
  have szC : s2.heap.objs.size ≤ C := by rw [hDD, hC]; exact Nat.le_succ _
  have below : ∀ b o, s2.heap.get? b = some o → b ≠ C ∧ b ≠ D := fun b o e => ⟨ad_ne (Heap.lt_size e) szC, ad_ne (Heap.lt_size e) szD⟩
  have old : ∀ b o, s2.heap.get? b = some o → h₁.get? b = some o := fun b o e => kp b o (hH3 ▸ Heap.get?_push_of_some _ e)
  have hacc : h₁.get? D = some { cls := .type "list", data := .seq ([] : List Value).toArray 0 } := kp _ _ (hH3 ▸ hDD ▸ Heap.get?_push_size _ rfl)
  have f2h : ∀ b ∈ fp, ∃ o, s2.heap.get? b = some o := fun b hbf => let ⟨o, e, _⟩ := T.obj 0 _ st2 b hbf; ⟨o, e⟩
  -- the block's context
  have okc : ∀ x c, X.env.cells.lookup x = some c → ∃ o, s2.heap.get? c = some o := fun x c e => let ⟨_, o, ho, _⟩ := I2.cell x c e; ⟨o, ho⟩
  have oMem : ∀ x c, (cellsFrom (C + 1) scope.names []).lookup x = some c → C + 1 ≤ c ∧ h₁.IsCell c none ∧ scope.names.lookup x = some .cell := fun x c e => by
    have m := PySem.mem_of_lookup e
    exact ⟨(cok.empty x c m).2, (cok.empty x c m).1, hS.one _ (cellsFrom_mem _ _ m) rfl⟩
  have oHas : ∀ x, scope.names.lookup x = some .cell → ∃ c, (cellsFrom (C + 1) scope.names []).lookup x = some c := fun x e => Option.isSome_iff_exists.mp (PySem.W.cellsFrom_some scope.names (C + 1) [] (.inl e))
  have oApart := cok.apart
  generalize cellsFrom (C + 1) scope.names [] = own at oMem oHas oApart ⊢
  have hcs : ∀ x c, (own ++ cl).lookup x = some c → (C + 1 ≤ c ∧ h₁.IsCell c none ∧ own.lookup x = some c) ∨ X.env.cells.lookup x = some c := fun x c e => by
    rcases lookup_app e with z | z
    · exact .inl ⟨(oMem x c z).1, (oMem x c z).2.1, z⟩
    · exact .inr (hcl x c z.2)
  have hlt : ∀ x c, X.env.cells.lookup x = some c → c < s2.heap.objs.size := fun x c e => let ⟨o, ho⟩ := okc x c e; Heap.lt_size ho
  have OK : (compCx X N2 scope (own ++ cl) C s2 H2 fp).Ok := by
    refine ⟨I2.ok.mod, hS.kind, I2.ok.glob, I2.ok.blt, ?_, fun x y c h1 h2 => ?_, fun x hx => ?_, fun x c hf h1 => ?_, I2.ok.hd, I2.ok.frames, .inl rfl, fun b hbf => ?_, I2.bs,
      Nat.le_trans I2.ok.bsz I2.sz, fun b o e hbf => ?_, fun b hbf hb' => ?_, I2.stack, I2.stkFree, I2.sysN⟩
    · exact szC
    · rcases hcs x c h1 with z | z
      · rcases hcs y c h2 with z' | z'
        · exact name_of_addr oApart (PySem.mem_of_lookup z.2.2) (PySem.mem_of_lookup z'.2.2)
        · exact absurd (hlt y c z') (Nat.not_lt.mpr (Nat.le_trans szC (Nat.le_trans (Nat.le_succ _) z.1)))
      · rcases hcs y c h2 with z' | z'
        · exact absurd (hlt x c z) (Nat.not_lt.mpr (Nat.le_trans szC (Nat.le_trans (Nat.le_succ _) z'.1)))
        · exact I2.ok.inj x y c z z'
    · rcases relabel_back (env := X.env) hx with z | z
      · obtain ⟨c, e⟩ := hcf x z
        show ∃ c, (own ++ cl).lookup x = some c
        rw [List.lookup_append]
        cases q : own.lookup x with
        | none => exact ⟨c, e⟩
        | some d => exact ⟨d, rfl⟩
      · obtain ⟨c, e⟩ := oHas x z
        exact ⟨c, by show (own ++ cl).lookup x = some c; rw [List.lookup_append, e]; rfl⟩
    · obtain ⟨d, e⟩ := oHas x (of_decide_eq_true hf)
      have h1' : (own ++ cl).lookup x = some c := h1
      rw [List.lookup_append, e] at h1'
      have e2 : d = c := Option.some.inj h1'
      rw [← e2]
      exact Nat.le_trans szC (Nat.le_trans (Nat.le_succ _) (oMem x d e).1)
    · obtain ⟨o, e⟩ := f2h b hbf
      refine ⟨(below b o e).1, fun x c h1 => ?_⟩
      rcases hcs x c h1 with z | z
      · exact fun w => absurd (Heap.lt_size e) (by rw [← w]; exact Nat.not_lt.mpr (Nat.le_trans szC (Nat.le_trans (Nat.le_succ _) z.1)))
      · exact (f2 b hbf).2.2.2.2.1 x c z
    · rcases (f2 b hbf).2.2.2.1 with z | z
      · exact I2.ok.noex b o e z
      · exact absurd (Nat.lt_of_lt_of_le (Heap.lt_size (I2.ok.bs b o e).1) z) (Nat.lt_irrefl _)
    · rcases List.mem_cons.mp (I2.stkSub b hb') with z | z
      · exact (f2 b hbf).2.1 z
      · exact (f2 b hbf).2.2.1 z
  have fresh : ∀ a, s2.heap.objs.size ≤ a → H2 a = none := fun a ha => I2.hok.fresh ha
  have I4 : ∀ tk, Inv (compCx X N2 scope (own ++ cl) C s2 H2 fp) [(D, { cls := .type "list", data := .seq ([] : List Value).toArray 0 })] (capS k caps σ) H2 { s2 with heap := h₁, toks := tk } := fun tk => by
    refine ⟨OK, rfl, I2.bare, Un.kept old, ⟨_, hns₁, fun i x v e1 e2 e3 => ?_⟩, fun x c e => ?_, fresh C szC, fun x c e => ?_, fun p hp => ?_, I2.hok.kept old, ?_⟩
    · obtain ⟨j, a, rfl, ha, hv⟩ := capS_ge e2
      obtain ⟨y, y1, y2, y3⟩ := hS.cap j a ha
      have e1' : N2[k + j]? = some x := e1
      rw [y1] at e1'; cases e1'
      have hk : X.env.scope.names.lookup x = some .cell ∨ X.env.scope.names.lookup x = some .free := hS.free (x, .free) (PySem.mem_of_lookup y3) rfl
      obtain ⟨m', _, hl⟩ := id I2.loc
      obtain ⟨u, ru, lk⟩ := hl a x v y2 hv (hk.elim (fun z => .inr (.inl z)) fun z => .inr (.inr z))
      refine ⟨u, ru, .inr ⟨relabel_free y3, ?_⟩⟩
      rcases lk with ⟨kk, _⟩ | ⟨_, c, e, z⟩
      · have kk' : X.env.scope.names.lookup x = some .local := kk
        rw [kk'] at hk
        rcases hk with z | z <;> cases z
      · obtain ⟨c', e'⟩ := hcf x y3
        have e'' := hcl x c' e'
        rw [e] at e''; cases e''
        obtain ⟨o, ho, hd⟩ := z
        refine ⟨c, ?_, o, old c o ho, hd⟩
        show (own ++ cl).lookup x = some c
        rw [List.lookup_append]
        cases q : own.lookup x with
        | none => exact e'
        | some d => have := (oMem x d q).2.2; rw [y3] at this; cases this
    · rcases hcs x c e with z | z
      · exact ⟨none, z.2.1⟩
      · obtain ⟨v, o, ho, hd⟩ := I2.cell x c z
        exact ⟨v, o, old c o ho, hd⟩
    · rcases hcs x c e with z | z
      · exact fresh c (Nat.le_trans szC (Nat.le_trans (Nat.le_succ _) z.1))
      · exact I2.freeC x c z
    · have hp' : p ∈ [(D, ({ cls := .type "list", data := .seq ([] : List Value).toArray 0 } : Obj))] := hp
      have e : p = (D, ({ cls := .type "list", data := .seq ([] : List Value).toArray 0 } : Obj)) := by simpa using hp'
      subst e
      exact ⟨hacc, fresh D szD, hDC, fun z => by
        rcases List.mem_cons.mp (I2.stkSub D z) with z | z
        · exact ad_ne I2.lt szD z.symm
        · exact I2.nofs szD z, fun v z => by cases z⟩
    · show (capS k caps σ).length = N2.length
      unfold capS
      rw [List.length_append, List.length_replicate, List.length_map, hS.len]
  -- the loop
  obtain ⟨hg, ht, he⟩ := hb (own ++ cl) C s2 H2 fp
  have loop : ∀ s₃ : Shared, Inv (compCx X N2 scope (own ++ cl) C s2 H2 fp) [(D, { cls := .type "list", data := .seq ([] : List Value).toArray 0 })] (capS k caps σ) H2 s₃ → tn 0 s₃.heap →
      codeAny (model X.prog X.w) X.A (.compLoop (.ListComp elt [⟨tg, iter, ifs, 0⟩] scope pos) 0 (.ref it) (.ref D) (compEnvC scope (own ++ cl) C X.env)) (RR (.ref D) C) s₃ := by
    intro s₃ I₃ st₃
    refine codeAny_loop rfl (fun n s' => ∃ i ys its nn H', Inv (compCx X N2 scope (own ++ cl) C s2 H2 fp) [(D, { cls := .type "list", data := .seq (its : List Value).toArray nn })] (capS k caps σ) H' s' ∧ Vals ys its ∧ tn i s'.heap ∧ (∀ b ∈ fp, H' b = none) ∧ ys.length ≤ sizeLine ∧ W i n ys H') ?_ m0
      ⟨0, [], [], 0, H2, I₃, .nil, st₃, fun b hbf => (f2 b hbf).1, Nat.zero_le _, w0⟩
    rintro n s5 ⟨i, ys, its, nn, H5, I5, rv, st5, fr5, hz, w5⟩
    show wpAny _ X.A ((compTurn (.ListComp elt [⟨tg, iter, ifs, 0⟩] scope pos) 0 (.ref it) (.ref D) (compEnvC scope (own ++ cl) C X.env)).onRaise (fun x => do noteFrame x (compEnvC scope (own ++ cl) C X.env); theTreesLotGoes x)) _ _ s5
    refine wpAny_noted ?_
    rw [compTurn_list]
    refine wpAny_bind (wpAny_standAt (wpAny_bind ?_))
    have fpok : ∀ {H' : Hp} {o : Obj}, (∀ b ∈ fp, H' b = none) → ∀ b ∈ fp, FpOk (compCx X N2 scope (own ++ cl) C s2 H2 fp) [(D, o)] H' b := fun {H' o} hn b hbf => by
      obtain ⟨ob, e⟩ := f2h b hbf
      refine ⟨hn b hbf, (below b ob e).1, OK.exfs b hbf, .inl hbf, (OK.exf b hbf).2, fun p hp z => ?_⟩
      have hp' : p ∈ [(D, o)] := hp
      have e' : p = (D, o) := by simpa using hp'
      subst e'
      exact (below b ob e).2 z.symm
    rcases turn i n ys H5 w5 with ⟨stop, qn⟩ | ⟨go, hz2, step⟩
    · refine thn (T.done (compCx X N2 scope (own ++ cl) C s2 H2 fp) rfl rfl rfl hc i _ s5 _ H5 _ I5 (fpok fr5) st5 stop) fun r s6 ⟨hr, I6⟩ => ?_
      subst hr
      refine wpAny_pure ?_
      obtain ⟨pe, pn, pne, pnf, _⟩ := I6.pin (D, { cls := .type "list", data := .seq its.toArray nn }) (List.mem_append_right _ (List.mem_singleton.mpr rfl))
      have hD : H5 D = none := pn
      have hCn : H5 C = none := I6.free
      refine hRR D C s6 H5 ys szD szC (Ne.symm hDC) hD hCn ?_ ?_ qn
      · have un : Un (frs X.stack) fp H2 (upd H5 D (.lst ys)) s2.heap s6.heap := by
          have u := I6.base
          refine ⟨u.keep, u.slot, fun b o e n1 n2 => ?_, u.there, fun b xs e => ?_, fun b o u' e => ?_, fun b ps e => ?_, fun n => by rw [upd_ne (Nat.ne_of_lt (Nat.lt_of_lt_of_le I2.bigS szD))]; exact u.sy n⟩
          · rw [upd_ne (below b o e).2]; exact u.free b o e n1 n2
          · rw [upd_ne (ne_of_none (u.tups b xs e) hD)]; exact u.tups b xs e
          · rw [upd_ne (ne_of_none (u.frzs b o u' e) hD)]; exact u.frzs b o u' e
          · obtain ⟨more, q⟩ := u.tbls b ps e
            exact ⟨more, by rw [upd_ne (ne_of_none q hD)]; exact q⟩
        refine I2.call' I6.os un (fun b u e => ?_) I6.bare (fun b hbf => ⟨(f2 b hbf).2.2.2.1, (f2 b hbf).2.1, (f2 b hbf).2.2.2.2.1, (f2 b hbf).2.2.2.2.2⟩)
        by_cases hbd : b = D
        · subst hbd
          rw [upd_same] at e; cases e
          exact ⟨hz, its, nn, rv, pe⟩
        · rw [upd_ne hbd] at e
          exact (I6.hok b u e).stay (fun _ _ _ q => q) (fun c q => by rw [upd_ne (ne_of_none q hD)]; exact q) fun c xs q => by rw [upd_ne (ne_of_none q hD)]; exact q
      · obtain ⟨m, hn, _⟩ := I6.loc
        exact ⟨m, hn⟩
    · refine thn (T.item (compCx X N2 scope (own ++ cl) C s2 H2 fp) rfl rfl rfl hc i _ s5 _ H5 _ I5 (fpok fr5) st5 go) fun r s6 ⟨u, hr, h6⟩ => ?_
      subst hr
      refine wpAny_bind (thn h6 fun _ s7 ⟨x, H7, I7, r7, y7, st7, fr7⟩ => ?_)
      have I7' := I7.pinned (fpok fr7) (T.obj _ _ st7)
      refine wpAny_bind (wpAny_mono (hg _ s7 _ H7 x u _ I7' r7 (hlow _ _ _ _ (step x H7 y7))) (fun _ s8 ⟨σ8, H8, I8, q8, ql, qk⟩ => ?_) fun _ _ z => z.elim)
      have wk : ∀ {pl : List (Addr × Obj)} {H9 : Hp} {s9 : Shared}, Inv (compCx X N2 scope (own ++ cl) C s2 H2 fp) pl σ8 H9 s9 → Inv (compCx X N2 scope (own ++ cl) C s2 H2 fp) pl (capS k caps σ) H9 s9 := fun {pl H9 s9} I9 =>
        I9.weak ql.symm fun i v e => by
          obtain ⟨j, a, rfl, _, _⟩ := capS_ge e
          rw [qk (k + j) (Nat.le_add_right _ _)]; exact e
      have pinD : ∀ {pl : List (Addr × Obj)} {σ9 : St} {H9 : Hp} {s9 : Shared}, Inv (compCx X N2 scope (own ++ cl) C s2 H2 fp) (((D, ({ cls := .type "list", data := .seq its.toArray nn } : Obj)) :: []) ++ pl) σ9 H9 s9 → s9.heap.get? D = some { cls := .type "list", data := .seq its.toArray nn } ∧ H9 D = none := fun {pl σ9 H9 s9} I9 => by
        obtain ⟨e1, e2, _⟩ := I9.pin (D, _) (List.mem_append_right _ (List.mem_append_left _ (List.mem_singleton.mpr rfl)))
        exact ⟨e1, e2⟩
      have stn : ∀ {pl : List (Addr × Obj)} {σ9 : St} {H9 : Hp} {s9 : Shared}, Inv (compCx X N2 scope (own ++ cl) C s2 H2 fp) (pl ++ pinsAt fp s7.heap) σ9 H9 s9 → tn (i + 1) s9.heap ∧ ∀ b ∈ fp, H9 b = none := fun {pl σ9 H9 s9} I9 => by
        refine ⟨T.keep _ _ _ st7 fun b hbf o e => (I9.pin (b, o) (List.mem_append_right _ (List.mem_append_right _ (mem_pinsAt hbf e)))).1, fun b hbf => ?_⟩
        obtain ⟨o, e, d⟩ := T.obj _ _ st7 b hbf
        exact (I9.pin (b, o) (List.mem_append_right _ (List.mem_append_right _ (mem_pinsAt hbf e)))).2.1
      refine wpAny_bind (wpAny_mono (ht _ s8 σ8 H8 _ I8 q8) (fun ok s9 ⟨H9, I9, q9⟩ => ?_) fun _ _ z => z.elim)
      cases ok with
      | false =>
        obtain ⟨m', hm, w9⟩ := (by simpa using q9 : ∃ m', m' < n ∧ W (i + 1) m' ys H9)
        refine wpAny_pure ⟨rfl, m', hm, i + 1, ys, its, nn, H9, wk I9.unpinned, rv, (stn I9).1, (stn I9).2, hz, w9⟩
      | true =>
        have q9' : te σ8 H9 fun v H4 => ∃ m', m' < n ∧ W (i + 1) m' (ys ++ [v]) H4 := by simpa using q9
        refine wpAny_bind (wpAny_bind (wpAny_mono (he _ s9 σ8 H9 _ I9 q9') (fun y s10 ⟨v, H10, I10, r10, q10⟩ => wpAny_bind ?_) fun _ _ z => z.elim))
        obtain ⟨m', hm, w10⟩ := q10
        obtain ⟨eD, nD⟩ := pinD I10
        have hl := rv.length
        refine call_meets F.slot_list_append ⟨_, eD, rfl⟩ F.entry_list_append (F.args_list_append_2 _ _) (PySem.list_append D its.toArray nn y (by rw [List.size_toArray]; omega)) ⟨eD, ?_⟩
        refine wpAny_pure (wpAny_pure ⟨rfl, m', hm, ?_⟩)
        obtain ⟨n2, qD⟩ : ∃ n2, (s10.heap.update D (Obj.mapSeq fun z => z.push y)).get? D = some { cls := .type "list", data := .seq (its ++ [y]).toArray n2 } := by
          have q0 := PySem.IsL.update eD (fun z => z.push y)
          have hf : its.toArray.push y = (its ++ [y]).toArray := by simp
          rw [hf] at q0
          exact ⟨_, q0⟩
        have J0 : Inv (compCx X N2 scope (own ++ cl) C s2 H2 fp) (pinsAt fp s7.heap) (capS k caps σ) H10 s10 := wk (I10.pins_of fun p hp => I10.pin p (List.mem_append_right _ (List.mem_append_right _ hp)))
        have J1 : Inv (compCx X N2 scope (own ++ cl) C s2 H2 fp) (pinsAt fp s7.heap) (capS k caps σ) H10 { s10 with heap := s10.heap.update D (Obj.mapSeq fun z => z.push y), toks := s10.toks } := by
          refine J0.turned (fun b o hne e => (Heap.get?_update_other s10.heap _ (Ne.symm hne)).trans e) nD hDC (.inr szD) (fun x c e z => ?_) fun p hp z => ?_
          · rcases hcs x c e with y | y
            · have := y.1
              rw [z] at this
              omega
            · obtain ⟨o, ho⟩ := okc x c y
              exact (below c o ho).2 z
          · have hp' : p ∈ pinsAt fp s7.heap := hp
            obtain ⟨ob, e⟩ := f2h p.1 (of_pinsAt hp').1
            exact (below p.1 ob e).2 z
        have J2 : Inv (compCx X N2 scope (own ++ cl) C s2 H2 fp) [(D, { cls := .type "list", data := .seq (its ++ [y]).toArray n2 })] (capS k caps σ) H10 { s10 with heap := s10.heap.update D (Obj.mapSeq fun z => z.push y), toks := s10.toks } := by
          refine J1.pins_of fun p hp => ?_
          have e : p = (D, { cls := .type "list", data := .seq (its ++ [y]).toArray n2 }) := List.mem_singleton.mp hp
          subst e
          exact ⟨qD, nD, hDC, fun z => by
            rcases List.mem_cons.mp (I2.stkSub D z) with z | z
            · exact ad_ne I2.lt szD z.symm
            · exact I2.nofs szD z, fun v z => by cases z⟩
        refine ⟨i + 1, ys ++ [v], its ++ [y], _, H10, J2, rv.append (.cons r10 .nil), ?_, (stn I10).2, ?_, w10⟩
        · refine T.keep _ _ _ (stn I10).1 fun b hbf o e => ?_
          obtain ⟨ob, e'⟩ := f2h b hbf
          exact (Heap.get?_update_other s10.heap _ (Ne.symm (below b ob e').2)).trans e
        · rw [List.length_append, List.length_singleton]; omega
  have st1 : tn 0 h₁ := T.keep _ _ _ st2 fun b hbf o e => old b o e
  exact codeAny_compStart_list (loop _ (I4 _) st1) (T.self X.A 0 _ _ _ st1 (loop _ (I4 _) st1))

theorem pe_comp {elt tg iter : Expr} {ifs : List Expr} {scope : Scope} {pos : Pos} {N2 : List Str} {k : Nat} {caps : List Nat} {wi : TI} {g : TG} {tt : TT} {te : TE}
    (hc : X.calm = true) (hS : CompOk X.env.scope X.N N2 k caps scope) (hlow : Low k g) (hi : PI X tg iter wi)
    (hb : ∀ (cl : List (Str × Addr)) (C : Addr) (s : Shared) (H : Hp) (ex : List Addr), PG (compCx X N2 scope cl C s H ex) tg g ∧ PTs (compCx X N2 scope cl C s H ex) ifs tt ∧ PE (compCx X N2 scope cl C s H ex) elt te)
    (hs : ∀ x, foldedSetIterable iter X.env x = pure x := by intro _; rfl) : PE X (.ListComp elt [⟨tg, iter, ifs, 0⟩] scope pos) (tComp k caps wi g tt te) := by
  intro pins s σ H Q I h
  rw [eval_ListComp]
  obtain ⟨cl, hcl0, hcl, hcf⟩ := closure_of (scope := scope) (env := X.env) fun y hy e => I.ok.has y.1 (hS.free y hy e)
  refine wpAny_comprehension_free (use := none) rfl hs hcl0 hS.kind hS.loc ?_
  refine thn (hi pins s σ H _ I h) fun v s1 h1 => thn h1 fun itv s2 h2 => ?_
  obtain ⟨it, fp, tn, J, H2, e, I2, T, st2, f2, W, ⟨m0, w0⟩, turn⟩ := h2
  subst e
  refine comp_block (RR := fun acc C => compPost (model X.prog X.w) X.A X.xe none (EP X pins σ Q) acc C) (Qe := fun ys H => ∀ p, H p = none → Q (.ref p) (upd H p (.lst ys))) hc hS hlow hcl hcf hb I2 T st2 f2 w0 turn ?_
  intro D C s' H' ys hD hC hDC nD nC I' hn q
  obtain ⟨m, hn⟩ := hn
  refine ⟨m, hn, fun h' hsb => ⟨.ref D, _, ?_, rfl, q D nD⟩⟩
  refine I'.but hsb (by rw [upd_ne hDC]; exact nC) (fun z => ?_) (Nat.le_trans I2.sz hC) (fun x c e z => ?_) fun p hp z => ?_
  · exact ad_ne I2.lt hC z.symm
  · obtain ⟨v, o, ho, _⟩ := I2.cell x c e
    exact ad_ne (Heap.lt_size ho) hC z
  · exact ad_ne (Heap.lt_size (I2.pin p hp).1) hC z

def tSetC (i : Nat) (t : TE) : TS := fun D σ H => t σ H fun v H1 => D.nx (σ.set i (some v)) H1
theorem ps_setC {elt tg iter : Expr} {ifs : List Expr} {scope : Scope} {pos py spos : Pos} {N2 : List Str} {k i : Nat} {y : Str} {caps : List Nat} {wi : TI} {g : TG} {tt : TT} {te : TE}
    (hc : X.calm = true) (hN : X.N.Nodup) (hi' : X.N[i]? = some y) (hS : CompOk X.env.scope X.N N2 k caps scope) (hlow : Low k g) (hi : PI X tg iter wi)
    (hb : ∀ (cl : List (Str × Addr)) (C : Addr) (s : Shared) (H : Hp) (ex : List Addr), PG (compCx X N2 scope cl C s H ex) tg g ∧ PTs (compCx X N2 scope cl C s H ex) ifs tt ∧ PE (compCx X N2 scope cl C s H ex) elt te)
    (hx : X.env.scope.names.lookup y = some .local := by rfl) (hsw : swapsWith (.ListComp elt [⟨tg, iter, ifs, 0⟩] scope pos) (some (.Name y py)) spos.line X.env = pure true := by rfl)
    (hs : ∀ x, foldedSetIterable iter X.env x = pure x := by intro _; rfl) : PS X (.Assign [.Name y py] (.ListComp elt [⟨tg, iter, ifs, 0⟩] scope pos) spos) (tSetC i (tComp k caps wi g tt te)) := by
  intro pins s σ H D0 I h
  obtain ⟨cl, hcl0, hcl, hcf⟩ := closure_of (scope := scope) (env := X.env) fun y hy e => I.ok.has y.1 (hS.free y hy e)
  rw [exec_Assign_Name_used _ _ _ _ hsw]
  refine wpAny_bind (wpAny_standAt (wpAny_bind ?_))
  show wpAny _ X.A (do let _ ← comprehension (.ListComp elt [⟨tg, iter, ifs, 0⟩] scope pos) scope X.env _ (newList []) false (eval iter X.env) (some (assign (.Name y py) X.env))) _ _ s
  refine wpAny_bind (wpAny_mono (wpAny_comprehension_free (use := some (assign (.Name y py) X.env)) (Q := fun _ s' => SP X pins D0 .next s') rfl hs hcl0 hS.kind hS.loc ?_) (fun _ s' hq => wpAny_pure (wpAny_pure hq)) fun _ _ e => e)
  refine thn (hi pins s σ H _ I h) fun v s1 h1 => thn h1 fun itv s2 h2 => ?_
  obtain ⟨it, fp, tn, J, H2, e, I2, T, st2, f2, W, ⟨m0, w0⟩, turn⟩ := h2
  subst e
  refine comp_block (RR := fun acc C => compPost (model X.prog X.w) X.A X.xe (some (assign (.Name y py) X.env)) (fun _ s' => SP X pins D0 .next s') acc C)
    (Qe := fun ys H => ∀ p, H p = none → D0.nx (σ.set i (some (.ref p))) (upd H p (.lst ys))) hc hS hlow hcl hcf hb I2 T st2 f2 w0 turn ?_
  intro D C s' H' ys hD hC hDC nD nC I' hn q
  obtain ⟨m, hn⟩ := hn
  show wpAny _ X.A (assign (.Name y py) X.env (.ref D)) _ _ _
  refine wpAny_assign_Name (store_ok2 (v := .ref D) I' hN hi' (.inl hx) rfl (fun s'' I'' ⟨a, hsb, ha⟩ => ?_) (.inr hx))
  have hLC : C ≠ X.env.locals := fun z => ad_ne I2.lt hC z.symm
  have hcC : ∀ x c, X.env.cells.lookup x = some c → c ≠ C := fun x c e z => by
    obtain ⟨v, o, ho, _⟩ := I2.cell x c e
    exact ad_ne (Heap.lt_size ho) hC z
  have haC : C ≠ a := by
    rcases ha with z | z
    · rw [z]; exact hLC
    · exact fun e => hcC y a z e.symm
  refine ⟨m, hn.sameBut hsb haC, fun h' hsb' => ?_⟩
  refine ⟨_, _, I''.but hsb' (by rw [upd_ne hDC]; exact nC) hLC (Nat.le_trans I2.sz hC) hcC fun p hp z => ?_, q D nD⟩
  exact ad_ne (Heap.lt_size (I2.pin p hp).1) hC z
end
end L2
end
section
set_option Elab.async false
set_option maxRecDepth 10000
set_option linter.all false
namespace L2
open PySem PySem.Spec PyProof.Rows

theorem ObjOk.obj {P : Program} {w : World} {H : Hp} {h : Heap} {a : Addr} {o : HO} (x : ObjOk P w H h a o) : ∃ ob, h.get? a = some ob := by
  cases o with
  | lst xs => obtain ⟨_, _, _, _, e⟩ := x; exact ⟨_, e⟩
  | tup xs => obtain ⟨_, _, _, ob, e, _⟩ := x; exact ⟨ob, e⟩
  | dK kvs => obtain ⟨_, _, _, _, o, _, _, e, _⟩ := x; exact ⟨o, e⟩
  | dT kvs => obtain ⟨_, _, _, _, o, _, _, e, _⟩ := x; exact ⟨o, e⟩
  | set S n => obtain ⟨o, _, _, _, e, _⟩ := x; exact ⟨o, e⟩
  | ins C dx fs => obtain ⟨_, _, _, e, _⟩ := x; exact ⟨_, e⟩
  | own y => exact x
  | xd fs => obtain ⟨_, ⟨o, _, _, e, _⟩, _⟩ := x; exact ⟨o, e⟩
  | rng lo hi => obtain ⟨_, _, _, e⟩ := x; exact ⟨_, e⟩
  | frz ob u => obtain ⟨e, _⟩ := x; exact ⟨_, e⟩
  | tbl ps => exact ⟨_, x⟩
  | met f y => exact ⟨_, x⟩
  | ext φ => obtain ⟨_, e, _⟩ := x; exact e
section
variable {X : Cx} {pins : List (Addr × Obj)} {σ : St} {H : Hp} {s : Shared}
end

section
variable {X : Cx}
theorem truth_bools {prog : Program} {w : World} {A : Around} {bs : List Bool} {its : List Value} (r : Vals (bs.map V.bl) its) : TruthOf prog w A (fun i v => its.toArray[i]? = some v) (fun i => bs.getD i false) := by
  intro i v s Q E hP h
  rw [List.getElem?_toArray] at hP
  have hlen := r.length
  rw [List.length_map] at hlen
  have hi : i < bs.length := by rw [hlen]; exact (List.getElem?_eq_some_iff.mp hP).1
  obtain ⟨u, e, ru⟩ := r.get (i := i) (x := .bl bs[i]) (by rw [List.getElem?_map, List.getElem?_eq_getElem hi]; rfl)
  rw [e] at hP; cases hP
  have ru' : v = Value.bool bs[i] := ru
  subst ru'
  have e2 : bs.getD i false = bs[i] := by rw [List.getD_eq_getElem?_getD, List.getElem?_eq_getElem hi]; rfl
  have h : Q (bs.getD i false) s := h
  rw [e2] at h
  exact wpAny_truthy_bool h
theorem all_range (bs : List Bool) : (List.range bs.length).all (fun i => bs.getD i false) = bs.all id := by
  rw [Bool.eq_iff_iff, List.all_eq_true, List.all_eq_true]
  constructor
  · intro h b hb
    obtain ⟨i, hi⟩ := List.mem_iff_getElem?.mp hb
    have q := h i (List.mem_range.mpr (List.getElem?_eq_some_iff.mp hi).1)
    rw [List.getD_eq_getElem?_getD, hi] at q
    exact q
  · intro h i hi
    have hi' := List.mem_range.mp hi
    rw [List.getD_eq_getElem?_getD, List.getElem?_eq_getElem hi']
    exact h _ (List.getElem_mem hi')
theorem call_all (hc : X.calm = true) : CallR X (.builtin "all") (fun xs H Q => ∃ (p : Addr) (bs : List Bool), xs = [.ref p] ∧ SqL X.K H p (bs.map V.bl) ∧ Q (.bl (bs.all id)) H) := by
  intro pins s σ H xs us Q I r h
  obtain ⟨p, bs, rfl, hq, q⟩ := h
  obtain ⟨u, rfl, rx⟩ := vals1 r
  cases rx
  obtain ⟨its, rv, pl, hz⟩ := I.list hq
  have hlen := rv.length
  rw [List.length_map] at hlen
  have hl := pl.isList
  have hlt : p < s.heap.objs.size := by obtain ⟨o, ho, _⟩ := hl; exact Heap.lt_size ho
  refine call_all_walk (wpAny_pyIter_list hl ?_)
  refine ⟨s.heap.objs.size, [s.heap.objs.size, p], [s.heap.objs.size], its.toArray.size, _, _, fun i => bs.getD i false, rfl, Walks.list (by simpa using I.ok.hd hc) s.heap.objs.size p (Nat.ne_of_lt hlt) its.toArray, ⟨⟨_, Heap.get?_push_size _ rfl, rfl, rfl⟩, hl.push _⟩, truth_bools rv, fun h' tk k => ?_⟩
  refine ⟨.bl (bs.all id), H, I.kept (h' := h') (t' := tk) fun b o e => k b o (fun z => ?_) (Heap.get?_push_of_some _ e), ?_, q⟩
  · exact absurd (List.mem_singleton.mp z) (Nat.ne_of_lt (Heap.lt_size e))
  · show Value.bool _ = Value.bool _
    rw [List.size_toArray, ← hlen, all_range]

theorem kit_ty {K : PySem.W.Frag} {a b : String} {r : Bool} (h : (if (Value.type a == Value.type b) = true then some true else if PySem.W.kitMeta b = true then (PySem.fastBuiltinMro a).map (·.contains (.type b)) else none) = some r) : PySem.W.kitOne K (.type a) (.type b) = some r := h
theorem call_isinst : CallR X (.builtin "isinstance") (fun xs H Q => ∃ (x : V) (T : String) (t : Value) (b : Bool), xs = [x, .ty T] ∧ TyOf X.K H x t ∧ PySem.W.kitOne X.K t (.type T) = some b ∧ Q (.bl b) H) := by
  intro pins s σ H xs us Q I r h
  obtain ⟨x, T, t, b, rfl, ty, e, q⟩ := h
  obtain ⟨u, w', rfl, rx, rt⟩ := vals2 r
  cases (show w' = Value.type T from rt)
  exact isinst_ok I rx ty e fun tk => ⟨.bl b, H, I.tok tk, rfl, q⟩

theorem call_range1 : CallR X (.type "range") (fun xs H Q => ∃ (n : Int), xs = [.int n] ∧ ∀ p, H p = none → Q (.ref p) (upd H p (.rng 0 n))) := by
  intro pins s σ H xs us Q I r h
  obtain ⟨n, rfl, q⟩ := h
  obtain ⟨u, rfl, rx⟩ := vals1 r
  obtain ⟨t, rfl⟩ := (show ∃ t, u = Value.int n t from rx)
  exact call_range_1 ⟨.ref s.heap.objs.size, _, I.laid (o := .rng 0 n) (fun _ _ e => Heap.get?_push_of_some _ e) (Nat.le_refl _) ⟨_, _, _, Heap.get?_push_size _ rfl⟩, rfl, q _ (I.hok.fresh (Nat.le_refl _))⟩
theorem call_range2 : CallR X (.type "range") (fun xs H Q => ∃ (a b : Int), xs = [.int a, .int b] ∧ ∀ p, H p = none → Q (.ref p) (upd H p (.rng a b))) := by
  intro pins s σ H xs us Q I r h
  obtain ⟨a, b, rfl, q⟩ := h
  obtain ⟨u, w', rfl, rx, ry⟩ := vals2 r
  obtain ⟨t, rfl⟩ := (show ∃ t, u = Value.int a t from rx)
  obtain ⟨t', rfl⟩ := (show ∃ t, w' = Value.int b t from ry)
  exact call_range_2 ⟨.ref s.heap.objs.size, _, I.laid (o := .rng a b) (fun _ _ e => Heap.get?_push_of_some _ e) (Nat.le_refl _) ⟨_, _, _, Heap.get?_push_size _ rfl⟩, rfl, q _ (I.hok.fresh (Nat.le_refl _))⟩
def upTo (lo : Int) (n : Nat) : List Int := (List.range n).map fun (i : Nat) => lo + i
theorem call_listRange (hc : X.calm = true) : CallR X (.type "list") (fun xs H Q => ∃ (r : Addr) (lo hi : Int), xs = [.ref r] ∧ H r = some (.rng lo hi) ∧ -(2 ^ 62) ≤ lo ∧ lo < 2 ^ 62 ∧ -(2 ^ 62) ≤ hi ∧ hi < 2 ^ 62 ∧ (hi - lo).toNat ≤ 1000 ∧
    ∀ l, H l = none → Q (.ref l) (upd H l (.lst ((upTo lo (hi - lo).toNat).map V.int)))) := by
  intro pins s σ H xs us Q I rr h
  obtain ⟨r, lo, hi, rfl, hH, h1, h2, h3, h4, h5, q⟩ := h
  obtain ⟨u, rfl, rx⟩ := vals1 rr
  cases rx
  obtain ⟨t, u, v, e⟩ := (show ObjOk X.prog X.w H s.heap r (.rng lo hi) from I.hok r _ hH)
  have hsz : Builtin.Range.rangeSize lo hi 1 = (((hi - lo).toNat : Nat) : Int) := by rw [rangeSize_one]; split <;> omega
  refine call_list_range (a := lo) (b := hi) (c := 1) (I.ok.hd hc) e (small_one h1 h2 h3 h4) hsz (by omega) fun h' tk acc c k eS hacc => ?_
  refine ⟨.ref s.heap.objs.size, _, I.laid (o := .lst ((upTo lo (hi - lo).toNat).map V.int)) (t' := tk) k (Nat.le_refl _) ⟨?_, acc.toList, c, ?_, by simpa using eS⟩, rfl, q _ (I.hok.fresh (Nat.le_refl _))⟩
  · unfold upTo
    rw [List.length_map, List.length_map, List.length_range]
    exact Nat.le_of_lt (small1000 h5)
  · have gen : ∀ (l : List Value) (j : Nat), (∀ (i : Nat) (v : Value), l[i]? = some v → ∃ t, v = Value.int (lo + ((i + j : Nat) : Int)) t) → Vals (((List.range' j l.length).map fun (i : Nat) => lo + i).map V.int) l := by
      intro l
      induction l with
      | nil => intro j _; exact .nil
      | cons x r ih =>
        intro j hx
        obtain ⟨t, e⟩ := hx 0 x rfl
        subst e
        rw [List.length_cons, List.range'_succ]
        refine .cons ⟨t, by simp⟩ (ih (j + 1) fun i v hv => ?_)
        obtain ⟨t', e'⟩ := hx (i + 1) v (by simpa using hv)
        exact ⟨t', by rw [e', show i + 1 + j = i + (j + 1) by omega]⟩
    have q2 := gen acc.toList 0 fun i v hv => by
      obtain ⟨t', e'⟩ := hacc.2 i v (by simpa using hv)
      exact ⟨t', by rw [e']; simp⟩
    have el : acc.toList.length = (hi - lo).toNat := by simpa using hacc.1
    rw [el, ← List.range_eq_range'] at q2
    exact q2

theorem Inv.big {pins : List (Addr × Obj)} {σ : St} {H : Hp} {s : Shared} (I : Inv X pins σ H s) : sysModules < s.heap.objs.size := by
  obtain ⟨o, _, _, e, _⟩ := I.ok.mod.glob
  exact Nat.lt_trans (by decide : (1 : Nat) < 3) (Heap.lt_size (I.bk _ _ e))
end
end L2
end
section
set_option Elab.async false
set_option maxRecDepth 10000
set_option linter.all false
namespace L2
open PySem PySem.Spec PyProof.Rows

mutual
inductive Tr (N : Addr → Prop) (H : Hp) : V → PyData → Prop
  | non : Tr N H .non .none
  | bl (b : Bool) : Tr N H (.bl b) (.bool b)
  | int (i : Int) : Tr N H (.int i) (.int i)
  | str (x : Str) : Tr N H (.str x) (.str x)
  | lst {a : Addr} {xs : List V} {ds : List PyData} : N a → H a = some (.lst xs) → TrAll N H xs ds → Tr N H (.ref a) (.list ds)
  | tup {a : Addr} {xs : List V} {ds : List PyData} : N a → H a = some (.tup xs) → TrAll N H xs ds → Tr N H (.ref a) (.tuple ds)
  | dct {a : Addr} : N a → H a = some (.dK []) → Tr N H (.ref a) (.dict [])
inductive TrAll (N : Addr → Prop) (H : Hp) : List V → List PyData → Prop
  | nil : TrAll N H [] []
  | cons {x : V} {d : PyData} {xs : List V} {ds : List PyData} : Tr N H x d → TrAll N H xs ds → TrAll N H (x :: xs) (d :: ds)
end

section
variable {N N' : Addr → Prop} {H H' : Hp}
theorem TrAll.length : ∀ {xs : List V} {ds : List PyData}, TrAll N H xs ds → xs.length = ds.length
  | _, _, .nil => rfl
  | _, _, .cons _ t => by rw [List.length_cons, List.length_cons, TrAll.length t]
theorem TrAll.append : ∀ {xs ys : List V} {ds es : List PyData}, TrAll N H xs ds → TrAll N H ys es → TrAll N H (xs ++ ys) (ds ++ es)
  | _, _, _, _, .nil, t => t
  | _, _, _, _, .cons r s, t => .cons r (TrAll.append s t)
theorem TrAll.take : ∀ {xs : List V} {ds : List PyData} (n : Nat), TrAll N H xs ds → TrAll N H (xs.take n) (ds.take n)
  | _, _, 0, _ => .nil
  | _, _, _ + 1, .nil => .nil
  | _, _, n + 1, .cons r t => .cons r (TrAll.take n t)
theorem TrAll.drop : ∀ {xs : List V} {ds : List PyData} (n : Nat), TrAll N H xs ds → TrAll N H (xs.drop n) (ds.drop n)
  | _, _, 0, r => r
  | _, _, _ + 1, .nil => .nil
  | _, _, n + 1, .cons _ t => TrAll.drop n t
theorem TrAll.get : ∀ {xs : List V} {ds : List PyData} {i : Nat} {x : V}, TrAll N H xs ds → xs[i]? = some x → ∃ d, ds[i]? = some d ∧ Tr N H x d
  | _, _, _, _, .nil, e => by simp at e
  | _, _, 0, _, .cons r _, e => by simp at e; subst e; exact ⟨_, rfl, r⟩
  | _, _, i + 1, x, .cons _ t, e => by
    obtain ⟨d, h1, h2⟩ := TrAll.get (i := i) (x := x) t (by simpa using e)
    exact ⟨d, by simpa using h1, h2⟩
theorem TrAll.getD : ∀ {xs : List V} {ds : List PyData} {i : Nat} {d : PyData}, TrAll N H xs ds → ds[i]? = some d → ∃ x, xs[i]? = some x ∧ Tr N H x d
  | _, _, _, _, .nil, e => by simp at e
  | _, _, 0, _, .cons r _, e => by simp at e; subst e; exact ⟨_, rfl, r⟩
  | _, _, i + 1, d, .cons _ t, e => by
    obtain ⟨x, h1, h2⟩ := TrAll.getD (i := i) (d := d) t (by simpa using e)
    exact ⟨x, by simpa using h1, h2⟩
mutual
theorem Tr.keep (e : ∀ b o, N b → H b = some o → H' b = some o) : ∀ {v : V} {d : PyData}, Tr N H v d → Tr N H' v d
  | _, _, .non => .non
  | _, _, .bl b => .bl b
  | _, _, .int i => .int i
  | _, _, .str x => .str x
  | _, _, .lst n h t => .lst n (e _ _ n h) (TrAll.keep e t)
  | _, _, .tup n h t => .tup n (e _ _ n h) (TrAll.keep e t)
  | _, _, .dct n h => .dct n (e _ _ n h)
theorem TrAll.keep (e : ∀ b o, N b → H b = some o → H' b = some o) : ∀ {xs : List V} {ds : List PyData}, TrAll N H xs ds → TrAll N H' xs ds
  | _, _, .nil => .nil
  | _, _, .cons r t => .cons (Tr.keep e r) (TrAll.keep e t)
end
theorem Tr.same (e : Same H H') {v : V} {d : PyData} (t : Tr N H v d) : Tr N H' v d := t.keep fun b o _ h => e b o h
theorem TrAll.same (e : Same H H') {xs : List V} {ds : List PyData} (t : TrAll N H xs ds) : TrAll N H' xs ds := t.keep fun b o _ h => e b o h
end

section
variable {N : Addr → Prop} {P : Program} {w : World} {H : Hp} {h : Heap}
mutual
theorem Tr.reads (ok : HOk P w H h) (hs : H sysModules = none) : ∀ {v : V} {d : PyData}, Tr N H v d → ∀ u, RelV v u → ∃ as, Reads h u d as ∧ sysModules ∉ as
  | _, _, .non, u, r => ⟨[], by cases (show u = Value.none from r); exact .none, by simp⟩
  | _, _, .bl b, u, r => ⟨[], by cases (show u = Value.bool b from r); exact .bool b, by simp⟩
  | _, _, .int i, u, r => by obtain ⟨t, rfl⟩ := (show ∃ t, u = Value.int i t from r); exact ⟨[], .int i t, by simp⟩
  | _, _, .str x, u, r => by obtain ⟨t, rfl⟩ := (show ∃ t, u = Value.str x t from r); exact ⟨[], .str x t, by simp⟩
  | _, _, .lst (a := a) (xs := xs) (ds := ds) _ hH t, u, r => by
    cases (show u = Value.ref a from r)
    obtain ⟨_, its, n, rv, e⟩ := (show ObjOk P w H h a (.lst xs) from ok a _ hH)
    obtain ⟨as, ra, na⟩ := TrAll.reads ok hs t its rv
    refine ⟨a :: as, .list e rfl rfl (by simpa using ra), fun z => ?_⟩
    rcases List.mem_cons.mp z with z | z
    · rw [z] at hs; rw [hs] at hH; cases hH
    · exact na z
  | _, _, .tup (a := a) (xs := xs) (ds := ds) _ hH t, u, r => by
    cases (show u = Value.ref a from r)
    obtain ⟨_, its, rv, ob, e, c, n, d⟩ := (show ObjOk P w H h a (.tup xs) from ok a _ hH)
    obtain ⟨as, ra, na⟩ := TrAll.reads ok hs t its rv
    exact ⟨as, .tuple e c d (by simpa using ra), na⟩
  | _, _, .dct (a := a) _ hH, u, r => by
    cases (show u = Value.ref a from r)
    obtain ⟨_, y, vs, kv, o, es, ep, e, ex, d, el⟩ := (show ObjOk P w H h a (.dK []) from ok a _ hH)
    cases kv
    have e0 : es.toList = [] := by
      have q : Pairs (mixKind P w) es.toList [] := el.2.1
      generalize es.toList = l at q
      cases q
      rfl
    refine ⟨[a], .dict (as := []) (bs := []) e ex.1 d (by rw [e0]; exact .nil) (by rw [e0]; exact .nil), fun z => ?_⟩
    have z' := List.mem_singleton.mp z
    rw [← z'] at y
    simp at y
theorem TrAll.reads (ok : HOk P w H h) (hs : H sysModules = none) : ∀ {xs : List V} {ds : List PyData}, TrAll N H xs ds → ∀ us, Vals xs us → ∃ as, ReadsAll h us ds as ∧ sysModules ∉ as
  | _, _, .nil, us, r => by cases r; exact ⟨[], .nil, by simp⟩
  | _, _, .cons t ts, us, r => by
    cases r with
    | cons rx rr =>
      obtain ⟨as, ra, na⟩ := Tr.reads ok hs t _ rx
      obtain ⟨bs, rb, nb⟩ := TrAll.reads ok hs ts _ rr
      exact ⟨as ++ bs, .cons ra rb, fun z => (List.mem_append.mp z).elim na nb⟩
end
end

section
variable {X : Cx}
theorem call_repr {k : Nat} (hr : Room k X.A) : CallR X (.builtin "repr") (fun xs H Q => ∃ (N : Addr → Prop) (a : Addr) (d : PyData), xs = [.ref a] ∧ Tr N H (.ref a) d ∧ d.showable = true ∧ d.depth ≤ 60 ∧ d.shown.length ≤ sizeLine ∧ Q (.str d.shown) H) := by
  intro pins s σ H xs us Q I r h
  obtain ⟨N, a, d, rfl, t, h1, h2, h3, q⟩ := h
  obtain ⟨u, rfl, rx⟩ := vals1 r
  cases rx
  obtain ⟨as, ra, na⟩ := t.reads I.hok I.sysN (.ref a) rfl
  have hu := hr.un
  exact repr_of_reads' ra h1 (fun _ => na) hr.gd (by omega) (fun _ _ e => e) (fun h' u tk k => ⟨.str d.shown, H, I.kept (h' := h') (t' := tk) k, ⟨u, rfl⟩, q⟩) h3
theorem op_eqD {k : Nat} (hr : Room k X.A) : OpR X (compareOp .Eq) (fun x y H Q => ∃ (N N' : Addr → Prop) (d e : PyData), Tr N H x d ∧ Tr N' H y e ∧ SeqAt.shaped d = true ∧ SeqAt.shaped e = true ∧ Q (.bl (PyData.eqv d e)) H) := by
  intro pins s σ H x y v u Q I rx ry h
  obtain ⟨N, N', d, e, t1, t2, s1, s2, q⟩ := h
  obtain ⟨as, ra, _⟩ := t1.reads I.hok I.sysN v rx
  obtain ⟨bs, rb, _⟩ := t2.reads I.hok I.sysN u ry
  exact SeqAt.compareEq_shaped ra rb s1 s2 hr.units ⟨.bl _, H, I, rfl, q⟩
theorem op_neD {k : Nat} (hr : Room k X.A) : OpR X (compareOp .NotEq) (fun x y H Q => ∃ (N N' : Addr → Prop) (d e : PyData), Tr N H x d ∧ Tr N' H y e ∧ SeqAt.shaped d = true ∧ SeqAt.shaped e = true ∧ Q (.bl (!PyData.eqv d e)) H) := by
  intro pins s σ H x y v u Q I rx ry h
  obtain ⟨N, N', d, e, t1, t2, s1, s2, q⟩ := h
  obtain ⟨as, ra, _⟩ := t1.reads I.hok I.sysN v rx
  obtain ⟨bs, rb, _⟩ := t2.reads I.hok I.sysN u ry
  exact SeqAt.compareNe_shaped ra rb s1 s2 hr.units ⟨.bl _, H, I, rfl, q⟩
end
end L2
end
section
set_option Elab.async false
set_option maxRecDepth 10000
set_option linter.all false
namespace HT
open PySem PySem.Spec PyProof.Rows
section
variable {prog : Program} {w : World} {A : Around} {E : Value → Shared → Prop} {s : Shared}
theorem cat_tup0 {t b : Addr} {ws : List Value} {Q : Value → Shared → Prop} (ht : IsTup s.heap t ([] : List Value).toArray) (hb : IsTup s.heap b ws.toArray) (h : Q (.ref b) s) : wpAny (model prog w) A (binaryOp .Add (.ref t) (.ref b)) Q E s := by
  obtain ⟨⟨c1, d1, x1, sl1⟩, ho, hc, n, hd⟩ := id ht
  obtain ⟨⟨c2, d2, x2, sl2⟩, ho2, hc2, n2, hd2⟩ := id hb
  simp only at hc hd hc2 hd2
  subst hc hd hc2 hd2
  exact concat_meets ⟨_, ho, rfl⟩ ⟨_, ho2, rfl⟩ noFill_tuple_add seq_tuple_add PySem.F.slot_tuple_add PySem.F.entry_tuple_add (PySem.F.args_tuple_add_2 _ _) (tuple_addW0 t b _ ws.toArray n n2 d1 d2 sl1 sl2 (by simp)) ⟨ho, ho2, h⟩
theorem slice_whole {t sl : Addr} {items : Array Value} {vl vu : Value} {lo hi : Option Int} {Q : Value → Shared → Prop} (ht : IsTup s.heap t items) (hs : s.heap.IsSliceOf sl vl vu .none) (pl : IsPart vl lo) (pu : IsPart vu hi)
    (hw : sIx items.size 0 lo = 0 ∧ sIx items.size items.size hi = items.size) (h : Q (.ref t) s) : wpAny (model prog w) A (getItem (.ref t) (.ref sl)) Q E s := by
  obtain ⟨os, hos, hcs, hds⟩ := id hs
  have hTs : s.TypeIs (.ref sl) "slice" := ⟨os, hos, hcs⟩
  unfold getItem
  try with_reducible refine wpAny_holding ?_
  first | refine wpAny_bind (wpAny_pure ?_) | skip
  refine wpAny_bind (wpAny_sequenceKey ht.typeIs (by decide) ?_)
  refine wpAny_bind (wpAny_callSpecial?_slot (name := Str.ofString "__getitem__") ht.typeIs PyProof.Rows.slot_tuple_getitem (wpAny_call_entry PyProof.Rows.slot_tuple_getitem ht.typeIs entry_tuple_getitem ?_ (args_tuple_getitem _ _)))
  show wpAny _ _ (Builtin.Tuple.tupleItemsOf (.ref t) >>= _) _ _ s
  refine wpAny_bind (tupleItemsOf_ ht (wpAny_bind (wpAny_typeOf hTs ?_)))
  rw [if_pos (by decide)]
  refine wpAny_bind (sliceApplied_gen hs pl pu ?_)
  have yes : (((sIx items.size 0 lo : Nat) : Int) == 0 && (1 : Int) == 1 && (sIx items.size items.size hi - sIx items.size 0 lo) == items.size) = true := by
    rw [hw.1, hw.2]; simp
  show wpAny _ _ (if (((sIx items.size 0 lo : Nat) : Int) == 0 && (1 : Int) == 1 && (sIx items.size items.size hi - sIx items.size 0 lo) == items.size) = true then _ else _) _ _ s
  rw [if_pos yes]
  unfold Builtin.Tuple.tupleIsExact
  refine wpAny_bind (wpAny_bind (wpAny_typeOf ht.typeIs (wpAny_pure ?_)))
  rw [if_pos (by decide)]
  exact wpAny_bind (wpAny_rule (wpAny_pure ⟨_, rfl, wpAny_pure h⟩))
end
end HT

namespace L2
open PySem PySem.Spec PyProof.Rows
theorem same_new {H : Hp} {p : Addr} (h : H p = none) (o : HO) : Same H (upd H p o) := fun b u q => by rw [upd_ne (ne_of_none q h)]; exact q
theorem cutV_whole (xs : List V) (lo hi : Option Int) (h : HT.sIx xs.length 0 lo = 0 ∧ HT.sIx xs.length xs.length hi = xs.length) : cutV xs lo hi = xs := by
  unfold cutV
  rw [h.1, h.2, List.drop_zero, Nat.sub_zero, List.take_length]
section
variable {X : Cx}
theorem op_catG : OpR X (binaryOp .Add) (fun x y H Q => ∃ (a b : Addr) (xs ys : List V), x = .ref a ∧ y = .ref b ∧ H a = some (.tup xs) ∧ H b = some (.tup ys) ∧ xs.length + ys.length ≤ sizeLine ∧ ∀ p H', Same H H' → H' p = some (.tup (xs ++ ys)) → Q (.ref p) H') := by
  intro pins s σ H x y v u Q I rx ry h
  obtain ⟨a, b, xs, ys, rfl, rfl, ha, hb, hz, q⟩ := h
  by_cases hx : xs = []
  · subst hx
    cases rx
    cases ry
    obtain ⟨its, r1, p1, _⟩ := I.tuple (SqT.of ha)
    obtain ⟨its2, r2, p2, _⟩ := I.tuple (SqT.of hb)
    cases r1
    exact HT.cat_tup0 p1 p2 ⟨.ref b, H, I, rfl, q b H (Same.refl H) hb⟩
  · refine op_catT pins s σ H _ _ v u Q I rx ry ⟨a, b, xs, ys, rfl, rfl, SqT.of ha, SqT.of hb, hx, hz, fun z => ?_, fun _ p hp => q p _ (same_new hp _) upd_same⟩
    subst z
    exact q a H (Same.refl H) (by rw [List.append_nil]; exact ha)
theorem sl_tupG : SlR X (fun x lo hi H Q => ∃ (a : Addr) (xs : List V), x = .ref a ∧ H a = some (.tup xs) ∧ ∀ p H', Same H H' → H' p = some (.tup (cutV xs lo hi)) → Q (.ref p) H') := by
  intro pins s σ H x v vl vu lo hi sl Q I rx hs pl pu h
  obtain ⟨a, xs, rfl, ha, q⟩ := h
  by_cases hw : HT.sIx xs.length 0 lo = 0 ∧ HT.sIx xs.length xs.length hi = xs.length
  · cases rx
    obtain ⟨its, r, ht, hz⟩ := I.tuple (SqT.of ha)
    have hlen : its.toArray.size = xs.length := by rw [List.size_toArray]; exact r.length.symm
    refine ⟨"tuple", _, PyProof.Rows.slot_tuple_getitem.lookup, ht.typeIs, ?_⟩
    exact HT.slice_whole ht hs pl pu (by rw [hlen]; exact hw) ⟨.ref a, H, I, rfl, q a H (Same.refl H) (by rw [cutV_whole xs lo hi hw]; exact ha)⟩
  · exact sl_tup pins s σ H _ v vl vu lo hi sl Q I rx hs pl pu ⟨a, xs, rfl, SqT.of ha, hw, fun p hp => q p _ (same_new hp _) upd_same⟩
theorem op_inTab {d : Addr} {D : List (PyData × PyData)} (hT : ∀ h, X.K.In h → IntTab X.prog X.w h d D) : OpR X (compareOp .In) (fun x y H Q => ∃ (i : Int), x = .int i ∧ y = .ref d ∧ Q (.bl (lookup (.int i) D).isSome) H) := by
  intro pins s σ H x y v u Q I rx ry h
  obtain ⟨i, rfl, rfl, q⟩ := h
  obtain ⟨t, rfl⟩ := (show ∃ t, v = Value.int i t from rx)
  cases ry
  exact in_intTab (hT _ I.kIn) ⟨.bl _, H, I.tok _, rfl, q⟩
theorem tab3 {P : Program} {w : World} {K : PySem.W.Frag} {d : Addr} {ep : Nat} {h1 h2 h3 k1 k2 k3 v1 v2 v3 : Int} {t1 t2 t3 u1 u2 u3 : Tok} (hd : (d == sysModules) = false)
    (l : K.lookup d = some { cls := .type "dict", data := .dict #[⟨h1, .int k1 t1, .int v1 u1⟩, ⟨h2, .int k2 t2, .int v2 u2⟩, ⟨h3, .int k3 t3, .int v3 u3⟩] ep })
    (e1 : h1 = hashInt k1) (e2 : h2 = hashInt k2) (e3 : h3 = hashInt k3) (nd : [k1, k2, k3].Nodup) : ∀ h, K.In h → IntTab P w h d [(.int k1, .int v1), (.int k2, .int v2), (.int k3, .int v3)] := by
  intro h kin
  refine ⟨hd, [(k1, .int v1 u1), (k2, .int v2 u2), (k3, .int v3 u3)], ⟨_, _, ep, kin _ _ l, ⟨rfl, rfl, rfl⟩, rfl, ?_, ?_, nd⟩, ?_⟩
  · intro e he
    simp only [List.mem_toArray, List.mem_cons, List.not_mem_nil, or_false] at he
    rcases he with z | z | z
    · subst z; exact ⟨k1, intKind_is P w k1 t1, e1⟩
    · subst z; exact ⟨k2, intKind_is P w k2 t2, e2⟩
    · subst z; exact ⟨k3, intKind_is P w k3 t3, e3⟩
  · exact .cons (intKind_is P w k1 t1) rfl (.cons (intKind_is P w k2 t2) rfl (.cons (intKind_is P w k3 t3) rfl .nil))
  · exact .cons (.int v1 u1) (.cons (.int v2 u2) (.cons (.int v3 u3) .nil))
end
end L2
end
section
set_option Elab.async false
set_option maxRecDepth 10000
set_option linter.all false
namespace L2
open PySem PySem.Spec PyProof.Rows

def Cal (P : Program) (w : World) (K : PySem.W.Frag) (mg : Str → Option Value) (base : Heap) (x : Str) (k : Nat) (ps : List Str) (sp : Sp) : Prop :=
  ∃ f fd, FnOk P w K mg base CX0 k f fd ps sp ∧ Binds K fd ps [] ∧ PySem.W.keepIn K (.ref f) = true ∧ mg x = some (.ref f)
section
variable {X : Cx}
theorem pe_callC {x : Str} {k k' : Nat} {ps : List Str} {sp : Sp} {e : Expr} {es : List Expr} {t : TA} {p pos : Pos} (c : Cal X.prog X.w X.K X.mg X.base x k ps sp) (hr : Room k' X.A) (hk : k ≤ k') (hg : Gl X x) (ha : PA X (e :: es) t)
    (hdb : (x == ("__debug__" : Str)) = false := by decide) (he : starEach (e :: es) X.env = (false, eval e X.env) :: starEach es X.env := by rfl) (hpl : (backTo pos (starEach es X.env)).any (·.1) = false := by rfl) :
    PE X (.Call (.Name x p) (e :: es) [] pos) (tCall sp [] E0 t) := by
  obtain ⟨f, fd, F, b, kp, m⟩ := c
  exact pe_call (F.mono hk) hr hg m kp b .nil pass0 ha hdb he hpl

theorem op_fdiv2 : OpR X (binaryOp .FloorDiv) (rI (fun _ j => 0 < j ∧ j < 2 ^ 64) fun i j => .int (i / j)) := opI fun i j _ _ _ _ _ hc q => by
  rw [← Int.fdiv_eq_ediv_of_nonneg _ (Int.le_of_lt hc.1)] at q
  refine floordiv_int (Int.ne_of_gt hc.1) q (.inl (PyProof.noPylong_of_log2 ?_))
  have h1 : j.natAbs < 2 ^ 64 := by omega
  have h2 : j.natAbs ≠ 0 := by omega
  exact Nat.lt_trans ((Nat.log2_lt h2).mpr h1) (by decide)
end

theorem bt_len : bootBuiltins "len" = some (.builtin "len") := by decide +kernel
theorem bt_isinstance : bootBuiltins "isinstance" = some (.builtin "isinstance") := by decide +kernel
theorem bt_all : bootBuiltins "all" = some (.builtin "all") := by decide +kernel
theorem bt_min : bootBuiltins "min" = some (.builtin "min") := by decide +kernel
theorem bt_max : bootBuiltins "max" = some (.builtin "max") := by decide +kernel
theorem bt_repr : bootBuiltins "repr" = some (.builtin "repr") := by decide +kernel
theorem bt_list : bootBuiltins "list" = some (.type "list") := by decide +kernel
theorem bt_tuple : bootBuiltins "tuple" = some (.type "tuple") := by decide +kernel
theorem bt_range : bootBuiltins "range" = some (.type "range") := by decide +kernel
theorem bt_int : bootBuiltins "int" = some (.type "int") := by decide +kernel
theorem bt_bool : bootBuiltins "bool" = some (.type "bool") := by decide +kernel
def bltNames : List Str := ["len", "isinstance", "all", "sorted", "min", "max", "abs", "repr", "set", "list", "tuple", "range", "int", "bool", "str"]
def Blt (mg : Str → Option Value) : Prop := ∀ x ∈ bltNames, mg x = none
theorem Blt.is {mg : Str → Option Value} (b : Blt mg) (x : Str) (h : bltNames.contains x = true := by decide +kernel) : mg x = none := b x (List.contains_iff_mem.mp h)

def tyName : PyData → String
  | .none => "NoneType"
  | .bool _ => "bool"
  | .int _ => "int"
  | .str _ => "str"
  | .list _ => "list"
  | .tuple _ => "tuple"
  | .dict _ => "dict"
theorem Tr.ty {N : Addr → Prop} {K : PySem.W.Frag} {H : Hp} {v : V} {d : PyData} (t : Tr N H v d) : TyOf K H v (.type (tyName d)) := by
  cases t with
  | non => exact .non
  | bl b => exact .bl b
  | int i => exact .int i
  | str x => exact .str x
  | lst _ h _ => exact .lst h
  | tup _ h _ => exact .tup h
  | dct _ h => exact .dK h
def isTy (T : String) (d : PyData) : Bool := match T with
  | "int" => (match d with | .int _ => true | .bool _ => true | _ => false)
  | "bool" => (match d with | .bool _ => true | _ => false)
  | "tuple" => (match d with | .tuple _ => true | _ => false)
  | "list" => (match d with | .list _ => true | _ => false)
  | _ => false
theorem kit_int {K : PySem.W.Frag} (d : PyData) : PySem.W.kitOne K (.type (tyName d)) (.type "int") = some (isTy "int" d) := by
  cases d with
  | none => exact kit_ty (a := "NoneType") (r := false) (by decide +kernel)
  | bool _ => exact kit_ty (a := "bool") (r := true) (by decide +kernel)
  | int _ => exact kit_ty (a := "int") (r := true) (by decide +kernel)
  | str _ => exact kit_ty (a := "str") (r := false) (by decide +kernel)
  | list _ => exact kit_ty (a := "list") (r := false) (by decide +kernel)
  | tuple _ => exact kit_ty (a := "tuple") (r := false) (by decide +kernel)
  | dict _ => exact kit_ty (a := "dict") (r := false) (by decide +kernel)
theorem kit_bool {K : PySem.W.Frag} (d : PyData) : PySem.W.kitOne K (.type (tyName d)) (.type "bool") = some (isTy "bool" d) := by
  cases d with
  | none => exact kit_ty (a := "NoneType") (r := false) (by decide +kernel)
  | bool _ => exact kit_ty (a := "bool") (r := true) (by decide +kernel)
  | int _ => exact kit_ty (a := "int") (r := false) (by decide +kernel)
  | str _ => exact kit_ty (a := "str") (r := false) (by decide +kernel)
  | list _ => exact kit_ty (a := "list") (r := false) (by decide +kernel)
  | tuple _ => exact kit_ty (a := "tuple") (r := false) (by decide +kernel)
  | dict _ => exact kit_ty (a := "dict") (r := false) (by decide +kernel)
theorem kit_tuple {K : PySem.W.Frag} (d : PyData) : PySem.W.kitOne K (.type (tyName d)) (.type "tuple") = some (isTy "tuple" d) := by
  cases d with
  | none => exact kit_ty (a := "NoneType") (r := false) (by decide +kernel)
  | bool _ => exact kit_ty (a := "bool") (r := false) (by decide +kernel)
  | int _ => exact kit_ty (a := "int") (r := false) (by decide +kernel)
  | str _ => exact kit_ty (a := "str") (r := false) (by decide +kernel)
  | list _ => exact kit_ty (a := "list") (r := false) (by decide +kernel)
  | tuple _ => exact kit_ty (a := "tuple") (r := true) (by decide +kernel)
  | dict _ => exact kit_ty (a := "dict") (r := false) (by decide +kernel)
theorem kit_list {K : PySem.W.Frag} (d : PyData) : PySem.W.kitOne K (.type (tyName d)) (.type "list") = some (isTy "list" d) := by
  cases d with
  | none => exact kit_ty (a := "NoneType") (r := false) (by decide +kernel)
  | bool _ => exact kit_ty (a := "bool") (r := false) (by decide +kernel)
  | int _ => exact kit_ty (a := "int") (r := false) (by decide +kernel)
  | str _ => exact kit_ty (a := "str") (r := false) (by decide +kernel)
  | list _ => exact kit_ty (a := "list") (r := true) (by decide +kernel)
  | tuple _ => exact kit_ty (a := "tuple") (r := false) (by decide +kernel)
  | dict _ => exact kit_ty (a := "dict") (r := false) (by decide +kernel)
end L2
end
section
set_option Elab.async false
set_option maxRecDepth 10000
set_option linter.all false
namespace L2
open PySem PySem.Spec PyProof.Rows

def leafFit : PyData → Bool
  | .none => true
  | .bool _ => true
  | .int i => decide (i.natAbs < 10 ^ 41)
  | .str x => decide (x.length ≤ 30) && x.cps.toList.all fun c => decide (c < 16 ^ 8)
  | .dict kvs => kvs.isEmpty
  | _ => false
def fit : List Nat → PyData → Bool
  | w :: ws, .list xs => decide (xs.length ≤ w) && xs.all (fit ws)
  | w :: ws, .tuple xs => decide (xs.length ≤ w) && xs.all (fit ws)
  | _, d => leafFit d
def bnd : List Nat → Nat
  | [] => 400
  | w :: ws => w * (bnd ws + 2) + 400
theorem leaf_ok {d : PyData} (h : leafFit d = true) : d.showable = true ∧ d.depth ≤ 1 ∧ d.shown.length ≤ 400 := by
  cases d with
  | none => exact ⟨rfl, by simp [PyData.depth], by decide⟩
  | bool b => exact ⟨rfl, by simp [PyData.depth], by cases b <;> decide⟩
  | int i =>
    have hi : i.natAbs < 10 ^ 41 := of_decide_eq_true h
    refine ⟨?_, by simp [PyData.depth], ?_⟩
    · simp only [PyData.showable, decide_eq_true_eq]
      by_cases h0 : i.natAbs = 0
      · rw [h0]; decide
      · exact Nat.lt_trans ((Nat.log2_lt h0).mpr (Nat.lt_trans hi (by decide : 10 ^ 41 < 2 ^ 137))) (by decide)
    · have q := int_text_length_le10 (k := 41) (by decide) hi
      have e : (PyData.shown (.int i)).length = (toString i).length := by
        show (Str.ofString (toString i)).length = _
        exact PySem.ofString_length _
      rw [e]; omega
  | str x =>
    simp only [leafFit, Bool.and_eq_true, decide_eq_true_eq, List.all_eq_true] at h
    refine ⟨rfl, by simp [PyData.depth], ?_⟩
    have q := StrLaws.reprText_len x h.2
    simp only [PyData.shown]
    have := h.1
    omega
  | list xs => cases h
  | tuple xs => cases h
  | dict kvs =>
    cases kvs with
    | nil => exact ⟨rfl, by simp [PyData.depth, PyData.depthKv], by decide⟩
    | cons a r => cases h
theorem fit_all {ws : List Nat} (ih : ∀ d, fit ws d = true → d.showable = true ∧ d.depth ≤ ws.length + 1 ∧ d.shown.length ≤ bnd ws) : ∀ xs : List PyData, xs.all (fit ws) = true →
    PyData.showableAll xs = true ∧ PyData.depthAll xs ≤ ws.length + 1 ∧ ((PyData.shownAll xs).map (·.length)).sum + 2 * (PyData.shownAll xs).length ≤ xs.length * (bnd ws + 2)
  | [], _ => ⟨rfl, by simp [PyData.depthAll], by simp [PyData.shownAll]⟩
  | x :: r, h => by
    rw [List.all_cons, Bool.and_eq_true] at h
    obtain ⟨a1, a2, a3⟩ := ih x h.1
    obtain ⟨b1, b2, b3⟩ := fit_all ih r h.2
    refine ⟨by simp [PyData.showableAll, a1, b1], by simp only [PyData.depthAll]; omega, ?_⟩
    simp only [PyData.shownAll, List.map_cons, List.sum_cons, List.length_cons]
    rw [show (r.length + 1) * (bnd ws + 2) = r.length * (bnd ws + 2) + (bnd ws + 2) from Nat.succ_mul _ _]
    omega
theorem fit_ok : ∀ (ws : List Nat) (d : PyData), fit ws d = true → d.showable = true ∧ d.depth ≤ ws.length + 1 ∧ d.shown.length ≤ bnd ws
  | [], d, h => by
    have h' : leafFit d = true := by
      cases d <;> exact h
    obtain ⟨a, b, c⟩ := leaf_ok h'
    exact ⟨a, b, c⟩
  | w :: ws, d, h => by
    have ih := fit_ok ws
    have leaf : leafFit d = true → d.showable = true ∧ d.depth ≤ (w :: ws).length + 1 ∧ d.shown.length ≤ bnd (w :: ws) := fun h' => by
      obtain ⟨a, b, c⟩ := leaf_ok h'
      refine ⟨a, by rw [List.length_cons]; omega, Nat.le_trans c ?_⟩
      unfold bnd; omega
    cases d with
    | list xs =>
      simp only [fit, Bool.and_eq_true, decide_eq_true_eq] at h
      obtain ⟨a, b, c⟩ := fit_all ih xs h.2
      refine ⟨by simpa [PyData.showable] using a, by simp only [PyData.depth, List.length_cons]; omega, ?_⟩
      have q := listText_len_le (PyData.shownAll xs)
      have m := Nat.mul_le_mul_right (bnd ws + 2) h.1
      simp only [PyData.shown, bnd]
      omega
    | tuple xs =>
      simp only [fit, Bool.and_eq_true, decide_eq_true_eq] at h
      obtain ⟨a, b, c⟩ := fit_all ih xs h.2
      refine ⟨by simpa [PyData.showable] using a, by simp only [PyData.depth, List.length_cons]; omega, ?_⟩
      have q := tupleText_len_le (PyData.shownAll xs)
      have m := Nat.mul_le_mul_right (bnd ws + 2) h.1
      simp only [PyData.shown, bnd]
      omega
    | none => exact leaf h
    | bool b => exact leaf h
    | int i => exact leaf h
    | str x => exact leaf h
    | dict kvs => exact leaf h

def Nx (n : Nat) (Pv : Nat → List V → Hp → Prop) (i : Nat) (ys : List V) (H : Hp) : Prop := ∃ m', m' < n - i ∧ (m' = n - (i + 1) ∧ i + 1 ≤ n ∧ Pv (i + 1) ys H)
theorem nx {n : Nat} {Pv : Nat → List V → Hp → Prop} {i : Nat} {ys : List V} {H : Hp} (hi : i < n) (p : Pv (i + 1) ys H) : Nx n Pv i ys H := ⟨n - (i + 1), by omega, rfl, hi, p⟩
section
variable {k : Nat} {caps : List Nat} {σ : St} {g : TG} {tt : TT} {te : TE} {Q : VK} {H : Hp}
end

def But (a : Addr) (H H' : Hp) : Prop := ∀ b o, b ≠ a → H b = some o → H' b = some o
theorem But.refl (a : Addr) (H : Hp) : But a H H := fun _ _ _ h => h
theorem But.trans {a : Addr} {H H1 H2 : Hp} (x : But a H H1) (y : But a H1 H2) : But a H H2 := fun b o hb h => y b o hb (x b o hb h)
theorem But.of_same {a : Addr} {H H' : Hp} (x : Same H H') : But a H H' := fun b o _ h => x b o h
theorem But.new {a : Addr} {H H' : Hp} (x : But a H H') {p : Addr} (h : H' p = none) (o : HO) : But a H (upd H' p o) := x.trans (But.of_same (same_new h o))
theorem But.upd {a : Addr} {H : Hp} (o : HO) : But a H (L2.upd H a o) := fun b u hb h => by rw [upd_ne hb]; exact h
theorem Tr.but {a : Addr} {H H' : Hp} {v : V} {d : PyData} (t : Tr (· ≠ a) H v d) (x : But a H H') : Tr (· ≠ a) H' v d := t.keep fun b o hb h => x b o hb h
theorem TrAll.but {a : Addr} {H H' : Hp} {v : List V} {d : List PyData} (t : TrAll (· ≠ a) H v d) (x : But a H H') : TrAll (· ≠ a) H' v d := t.keep fun b o hb h => x b o hb h
def Well (H : Hp) (a : Addr) : Prop := ∃ x y : Int, H a = some (.lst [.int x, .int y])
theorem Well.same {H H' : Hp} {a : Addr} (w : Well H a) (e : Same H H') : Well H' a := by obtain ⟨x, y, h⟩ := w; exact ⟨x, y, e _ _ h⟩
theorem Well.ne {H : Hp} {a p : Addr} (w : Well H a) (h : H p = none) : p ≠ a := by obtain ⟨x, y, q⟩ := w; exact fun e => by rw [e, q] at h; cases h
theorem But.none {a p : Addr} {H H' : Hp} (x : But a H H') (w : Well H' a) (h : H' p = none) : H p = none := by
  have hne := w.ne h
  cases q : H p with
  | none => rfl
  | some o => rw [x p o hne q] at h; cases h
end L2
end
section
set_option Elab.async false
set_option maxRecDepth 10000
set_option linter.all false
namespace L2
open PySem PySem.Spec PyProof.Rows
mutual
theorem Tr.mono {N N' : Addr → Prop} {H : Hp} (e : ∀ b, N b → N' b) : ∀ {v : V} {d : PyData}, Tr N H v d → Tr N' H v d
  | _, _, .non => .non
  | _, _, .bl b => .bl b
  | _, _, .int i => .int i
  | _, _, .str x => .str x
  | _, _, .lst n h t => .lst (e _ n) h (TrAll.mono e t)
  | _, _, .tup n h t => .tup (e _ n) h (TrAll.mono e t)
  | _, _, .dct n h => .dct (e _ n) h
theorem TrAll.mono {N N' : Addr → Prop} {H : Hp} (e : ∀ b, N b → N' b) : ∀ {xs : List V} {ds : List PyData}, TrAll N H xs ds → TrAll N' H xs ds
  | _, _, .nil => .nil
  | _, _, .cons r t => .cons (Tr.mono e r) (TrAll.mono e t)
end
theorem Well.net {H : Hp} {a p : Addr} {xs : List V} (w : Well H a) (h : H p = some (.tup xs)) : p ≠ a := by obtain ⟨x, y, q⟩ := w; exact fun e => by rw [e, q] at h; cases h

section
variable {a : Addr} {H0 : Hp} {σ : St} {te t1 t2 : TE} {ta : TA} {d : PyData} {ds d1 d2 : List PyData} {i j : Int}
theorem TrAll.rep {N : Addr → Prop} {H : Hp} {xs : List V} {ds : List PyData} (h : TrAll N H xs ds) : ∀ n : Nat, TrAll N H (List.replicate n xs).flatten (List.replicate n ds).flatten
  | 0 => .nil
  | n + 1 => by rw [List.replicate_succ, List.replicate_succ, List.flatten_cons, List.flatten_cons]; exact h.append (h.rep n)
def cutD (xs : List PyData) (lo hi : Option Int) : List PyData := (xs.drop (HT.sIx xs.length 0 lo)).take (HT.sIx xs.length xs.length hi - HT.sIx xs.length 0 lo)
theorem TrAll.cut {N : Addr → Prop} {H : Hp} {xs : List V} {ds : List PyData} (h : TrAll N H xs ds) (lo hi : Option Int) : TrAll N H (cutV xs lo hi) (cutD ds lo hi) := by
  unfold cutV cutD
  rw [h.length]
  exact (h.drop _).take _
end
end L2
end
section
set_option Elab.async false
set_option maxRecDepth 10000
set_option linter.all false
namespace L2
open PySem PySem.Spec PyProof.Rows
section
variable {X : Cx} {K : PySem.W.Frag}
abbrev rLen (K : PySem.W.Frag) : List V → Hp → VK → Prop := fun xs H Q => ∃ p ys, xs = [.ref p] ∧ (SqL K H p ys ∨ SqT K H p ys) ∧ Q (.int ys.length) H
abbrev rListOf (K : PySem.W.Frag) : List V → Hp → VK → Prop := fun xs H Q => ∃ p ys, xs = [.ref p] ∧ (SqL K H p ys ∨ SqT K H p ys) ∧ ∀ l, H l = none → Q (.ref l) (upd H l (.lst ys))
abbrev rTupleOf (K : PySem.W.Frag) : List V → Hp → VK → Prop := fun xs H Q => ∃ p ys, xs = [.ref p] ∧ ((SqL K H p ys ∧ ∀ l, H l = none → Q (.ref l) (upd H l (.tup ys))) ∨ (SqT K H p ys ∧ Q (.ref p) H))
theorem pe_ixTab {d : Addr} {D : List (PyData × PyData)} {x : Str} {p pos : Pos} {b : Expr} {ta tb : TE} (hT : ∀ h, X.K.In h → IntTab X.prog X.w h d D) (ha : PE X (.Name x p) ta) (hb : PE X b tb) (hs : PlainIx b)
    (hg : ∀ r, letTemporaryGo (.Name x p) (.ref d) r = pure () := by intro _; with_unfolding_all rfl) :
    PE X (.Subscript (.Name x p) b pos) (tOp (fun x y H Q => ∃ (i j : Int), x = .ref d ∧ y = .int i ∧ lookup (.int i) D = some (.int j) ∧ Q (.int j) H) ta tb) := by
  intro pins s σ H Q I h
  refine Subscript_ (binT ha hb I h fun v u s2 x y H2 I2 rx ry q => ?_)
  obtain ⟨i, j, rfl, rfl, hl, q⟩ := q
  cases rx
  obtain ⟨t, rfl⟩ := ry
  refine item_intTab (hT _ I2.kIn) hl (fun v fl => ?_) (hs _ _) hg
  cases fl s2.heap with
  | int _ t' => exact ⟨.int j, H2, I2.tok _, ⟨t', rfl⟩, q⟩
end
end L2
end
section
set_option Elab.async false
set_option maxRecDepth 10000
set_option linter.all false
namespace Bc
open PySem PySem.Spec PyProof.Rows L2
def isWays : PyData → Bool
  | .int i => decide (i = 1 ∨ i = 2 ∨ i = 3)
  | _ => false
def isStretch : PyData → Bool
  | .tuple [.int a, .int b] => decide (a < b)
  | _ => false
def isBox : PyData → PyData → Bool
  | .int n, .tuple ds => decide (n = 1 ∨ n = 2 ∨ n = 3) && decide (n = (ds.length : Int)) && ds.all isStretch
  | _, _ => false
abbrev D3 : List (PyData × PyData) := [(.int 1, .int 20), (.int 2, .int 10), (.int 3, .int 6)]
theorem in_D3 (i : Int) : (lookup (.int i) D3).isSome = decide (i = 1 ∨ i = 2 ∨ i = 3) := by
  have same_i : ∀ a b : Int, same (.int a) (.int b) = decide (a = b) := fun a b => by by_cases h : a = b <;> simp [same, h]
  simp only [lookup, same_i]
  by_cases h1 : (1 : Int) = i
  · subst h1; rfl
  by_cases h2 : (2 : Int) = i
  · subst h2; rfl
  by_cases h3 : (3 : Int) = i
  · subst h3; rfl
  rw [decide_eq_false h1, decide_eq_false h2, decide_eq_false h3]
  have h : ¬ (i = 1 ∨ i = 2 ∨ i = 3) := by omega
  rw [decide_eq_false h]
  rfl
def Marks (ms : List Int) : Prop := ms.Pairwise (· < ·) ∧ 2 ≤ ms.length ∧ ms.length ≤ 60 ∧ ∀ m ∈ ms, -(10 ^ 9) ≤ m ∧ m ≤ 10 ^ 9
def Near (i : Int) : Prop := -(10 ^ 9) ≤ i ∧ i ≤ 10 ^ 9
def lay1 : PyData → Bool
  | .tuple es => PyData.canLayAll0 es && decide (PyData.depthAll es ≤ 60)
  | _ => true
def lay : PyData → Bool
  | .tuple ds => ds.all lay1
  | _ => true
abbrev F3 : List Nat := [9, 9, 9]
def nr (a : Int) : Bool := decide (-(10 ^ 9) ≤ a) && decide (a ≤ 10 ^ 9)
def bx : PyData → Bool
  | .tuple [.int a, .int b] => nr a && nr b && decide (a < b)
  | _ => false
def part (d : PyData) : Bool := fit [9, 9] d && lay1 d
def good (d : PyData) : Bool := fit F3 d && lay d
theorem leaf_int {a : Int} (h : a.natAbs < 10 ^ 41) : leafFit (.int a) = true := decide_eq_true h
theorem leaf_nr {a : Int} (h : nr a = true) : leafFit (.int a) = true := by
  simp only [nr, Bool.and_eq_true, decide_eq_true_eq] at h
  exact leaf_int (by omega)
theorem bx_is {d : PyData} (h : bx d = true) : ∃ a b, d = .tuple [.int a, .int b] ∧ nr a = true ∧ nr b = true ∧ a < b := by
  unfold bx at h
  split at h
  · rename_i a b
    simp only [Bool.and_eq_true, decide_eq_true_eq] at h
    exact ⟨a, b, rfl, h.1.1, h.1.2, h.2⟩
  · cases h
theorem bx_all {d : PyData} (h : bx d = true) : part d = true ∧ fit [9] d = true ∧ d.canLay0 = true ∧ d.depth ≤ 2 ∧ isStretch d = true := by
  obtain ⟨a, b, rfl, h1, h2, h3⟩ := bx_is h
  refine ⟨?_, ?_, rfl, by simp [PyData.depth, PyData.depthAll], decide_eq_true h3⟩
  · simp [part, fit, lay1, PyData.canLayAll0, PyData.canLay0, PyData.depthAll, PyData.depth, leaf_nr h1, leaf_nr h2]
  · simp [fit, leaf_nr h1, leaf_nr h2]
theorem all_imp {ds : List PyData} {f g : PyData → Bool} (h : ds.all f = true) (k : ∀ d, f d = true → g d = true) : ds.all g = true := List.all_eq_true.mpr fun x hx => k x (List.all_eq_true.mp h x hx)
theorem of_str (s : String) : (Str.ofString s).length = s.length ∧ ∀ c ∈ (Str.ofString s).cps.toList, c < 1114112 := by
  refine ⟨PySem.ofString_length _, fun c hc => ?_⟩
  rw [Str.ofString_eq_toList] at hc
  obtain ⟨x, _, rfl⟩ := List.mem_map.mp (by simpa using hc)
  have := x.valid
  rcases this with h | h
  · have h' : x.toNat < 0xd800 := h
    omega
  · have h' : x.toNat < 0x110000 := h.2
    omega
theorem str_int {a : Int} (h : nr a = true) : leafFit (.str (toString a)) = true ∧ PyData.canLay0 (.str (toString a)) = true := by
  simp only [nr, Bool.and_eq_true, decide_eq_true_eq] at h
  obtain ⟨l, c⟩ := of_str (toString a)
  have q := int_text_length_le10 (a := a) (k := 10) (by decide) (by omega)
  constructor
  · show (decide ((Str.ofString (toString a)).length ≤ 30) && _) = true
    rw [decide_eq_true (by omega), Bool.true_and, List.all_eq_true]
    exact fun x hx => decide_eq_true (Nat.lt_trans (c x hx) (by decide))
  · show (Str.ofString (toString a)).cps.all (· < 0x110000) = true
    rw [← Array.all_toList, List.all_eq_true]
    exact fun x hx => decide_eq_true (c x hx)
def MK (a : Addr) (H : Hp) (y : V) : Prop := ∃ q ms, y = .ref q ∧ q ≠ a ∧ H q = some (.lst (ms.map V.int)) ∧ Marks ms
theorem MK.but {a : Addr} {H H' : Hp} {y : V} (h : MK a H y) (b : But a H H') : MK a H' y := by
  obtain ⟨q, ms, e, n, hq, m⟩ := h
  exact ⟨q, ms, e, n, b _ _ n hq, m⟩
end Bc
end
section
set_option Elab.async false
set_option maxRecDepth 100000
set_option linter.all false
namespace HT
open PySem PySem.Spec PyProof.Rows
open AutoSeq1 (wpAny_loadPart')
theorem noFill_tuple_mul : fillsNumberSlot (.type "tuple") "mul" = pure false :=
  PySem.fillsNumberSlot_seq (id := "tuple.__mul__") (r := some (.builtin "tuple.__rmul__")) PySem.F.slot_tuple_mul.lookup (by decide +kernel) PySem.F.slot_tuple_rmul.lookup (by decide +kernel)
theorem rep_tuple : seqRepeat? (.type "tuple") = pure (some (.builtin "tuple.__mul__")) := by
  unfold seqRepeat?
  rw [PySem.seqSlot_of (T := "tuple") (name := "__mul__") (id := "tuple.__mul__") PySem.F.slot_tuple_mul.lookup (by decide +kernel), PySem.seqSlot_of (T := "tuple") (name := "__rmul__") (id := "tuple.__rmul__") PySem.F.slot_tuple_rmul.lookup (by decide +kernel)]
  rfl
theorem int_rmul_tup (a : Int) (t : Tok) (l : Addr) (items : Array Value) (n : Nat) (dd : Option Addr) (sl : Array (Option Value)) :
    Meets (Builtin.«int.__rmul__» ⟨[.int a t, .ref l], []⟩) (fun _ R s => s.heap.get? l = some { cls := .type "tuple", dict := dd, data := .seq items n, slots := sl } ∧ R (.ok (.ret Value.notImplemented)) s) :=
  .of_wp fun prog w A R s h => by obtain ⟨hp, g, d, tk, os⟩ := s; obtain ⟨hl, h⟩ := h; wp_walk using wpAny_loadPart' hl; exact ⟨_, rfl, h⟩
theorem tup_mul1 (l : Addr) (items : Array Value) (n : Nat) (dd : Option Addr) (sl : Array (Option Value)) (x : Int) (u : Tok) (hc0 : ¬ (decide (x < -(2 ^ 63)) || decide (x ≥ 2 ^ 63)) = true) (hc1 : (items.isEmpty || x == 1) = true) :
    Meets (Builtin.«tuple.__mul__» ⟨[.ref l, .int x u], []⟩) (fun _ R s => s.heap.get? l = some { cls := .type "tuple", dict := dd, data := .seq items n, slots := sl } ∧ R (.ok (.ret (Value.ref l))) { s with heap := s.heap, toks := s.toks }) :=
  .of_wp fun prog w A R s h => by obtain ⟨hp, g, d, tk, os⟩ := s; obtain ⟨hl, h⟩ := h; have f1 := AutoSeq1.idx_int; wp_walk; refine wpAny_ite_false (decide_eq_false hc0) ?_; wp_walk using wpAny_loadPart' hl; exact ⟨_, rfl, h⟩
theorem tup_mulN (l : Addr) (items : Array Value) (n : Nat) (dd : Option Addr) (sl : Array (Option Value)) (x : Int) (u : Tok) (hc0 : ¬ (decide (x < -(2 ^ 63)) || decide (x ≥ 2 ^ 63)) = true) (hc1 : ¬ (items.isEmpty || x == 1) = true)
    (hc2 : ¬ (decide (x ≤ 0) || items.isEmpty) = true) (hc3 : ¬ (items.size : Int) * x > (2 ^ 63 - 1) / 8) (hc4 : ¬ Builtin.Tuple.tupleTooMany ((items.size : Int) * x) = true) (hsz : (List.foldl (fun x1 x2 => x1 ++ x2) #[] (List.replicate x.toNat items)).size ≤ sizeLine) :
    Meets (Builtin.«tuple.__mul__» ⟨[.ref l, .int x u], []⟩) (fun _ R s => s.heap.get? l = some { cls := .type "tuple", dict := dd, data := .seq items n, slots := sl } ∧ R (.ok (.ret (Value.ref s.heap.objs.size))) { s with heap := s.heap.push { cls := Value.type "tuple", data := Data.seq (List.foldl (fun x1 x2 => x1 ++ x2) #[] (List.replicate x.toNat items)) }, toks := s.toks }) :=
  .of_wp fun prog w A R s h => by obtain ⟨hp, g, d, tk, os⟩ := s; obtain ⟨hl, h⟩ := h; have f1 := AutoSeq1.idx_int; wp_walk; refine wpAny_ite_false (decide_eq_false hc0) ?_; wp_walk using wpAny_loadPart' hl; refine wpAny_ite_false (decide_eq_false hc3) ?_; wp_walk; exact ⟨_, rfl, h⟩
section
variable {prog : Program} {w : World} {A : Around} {E : Value → Shared → Prop} {s : Shared}
theorem mul_tup {t : Addr} {its : List Value} {k : Int} {u : Tok} {Q : Value → Shared → Prop} (ht : IsTup s.heap t its.toArray) (hne : its ≠ []) (h1 : 1 ≤ k) (h2 : k < 2 ^ 60) (hz : its.length * k.toNat ≤ sizeLine)
    (q1 : k = 1 → Q (.ref t) s) (q2 : k ≠ 1 → Q (.ref s.heap.objs.size) { s with heap := s.heap.push { cls := .type "tuple", data := .seq (List.replicate k.toNat its).flatten.toArray } }) :
    wpAny (model prog w) A (binaryOp .Mult (.ref t) (.int k u)) Q E s := by
  obtain ⟨⟨c1, d1, x1, sl1⟩, ho, hc, n, hd⟩ := id ht
  simp only at hc hd
  subst hc hd
  have c0 : ¬ (decide (k < -(2 ^ 63)) || decide (k ≥ 2 ^ 63)) = true := by
    rw [decide_eq_false (by omega), decide_eq_false (by omega)]; exact Bool.false_ne_true
  have ne : its.toArray.isEmpty = false := by cases its with | nil => exact absurd rfl hne | cons _ _ => rfl
  have hnew : List.foldl (fun x1 x2 => x1 ++ x2) #[] (List.replicate k.toNat its.toArray) = (List.replicate k.toNat its).flatten.toArray := by
    have := L2.foldl_rep its k.toNat []
    rw [List.nil_append] at this
    exact this
  refine wpAny_binaryOp_repeat_ref (T := "tuple") (U := "int") (by decide) ⟨_, ho, rfl⟩ (fun s' => typeIs_int s' k u) noFill_tuple_mul PySem.F.fills_int_mul PySem.F.slot_int_rmul rep_tuple PySem.F.slot_int_index.lookup
    (call_meets PySem.F.slot_int_rmul (typeIs_int s k u) PySem.F.entry_int_rmul (PySem.F.args_int_rmul_2 _ _) (int_rmul_tup k u t its.toArray n d1 sl1) ⟨ho, rfl, ⟨_, ho, rfl⟩, ?_⟩)
  by_cases k1 : k = 1
  · exact call_meets PySem.F.slot_tuple_mul ⟨_, ho, rfl⟩ PySem.F.entry_tuple_mul (PySem.F.args_tuple_mul_2 _ _) (tup_mul1 t its.toArray n d1 sl1 k u c0 (by rw [k1]; simp)) ⟨ho, q1 k1⟩
  · have e : ((its.toArray.size : Nat) : Int) * k = ((its.length * k.toNat : Nat) : Int) := by
      rw [List.size_toArray, Int.natCast_mul, Int.toNat_of_nonneg (by omega)]
    have hs : (sizeLine : Nat) = 16777216 := by decide
    refine call_meets PySem.F.slot_tuple_mul ⟨_, ho, rfl⟩ PySem.F.entry_tuple_mul (PySem.F.args_tuple_mul_2 _ _) (tup_mulN t its.toArray n d1 sl1 k u c0 ?_ ?_ ?_ ?_ ?_) ⟨ho, ?_⟩
    · rw [ne]; simp [k1]
    · rw [ne, decide_eq_false (by omega)]; exact Bool.false_ne_true
    · rw [e]; omega
    · rw [e]
      unfold Builtin.Tuple.tupleTooMany
      rw [decide_eq_true_eq]
      omega
    · rw [hnew, List.size_toArray, L2.len_rep, Nat.mul_comm]; exact hz
    · rw [hnew]; exact q2 k1
end
end HT
namespace L2
open PySem PySem.Spec PyProof.Rows
abbrev rRepG : R2 := fun x y H Q => ∃ (a : Addr) (k : Int) (xs : List V), x = .ref a ∧ y = .int k ∧ H a = some (.tup xs) ∧ xs ≠ [] ∧ 1 ≤ k ∧ k < 2 ^ 60 ∧ xs.length * k.toNat ≤ sizeLine ∧ ∀ p H', Same H H' → H' p = some (.tup (List.replicate k.toNat xs).flatten) → Q (.ref p) H'
section
variable {X : Cx}
theorem op_repG : OpR X (binaryOp .Mult) rRepG := by
  intro pins s σ H x y v u Q I rx ry h
  obtain ⟨a, k, xs, rfl, rfl, ha, hne, k1, k2, hz, q⟩ := h
  cases rx
  obtain ⟨t, rfl⟩ := ry
  obtain ⟨its, r1, p1, _⟩ := I.tuple (SqT.of ha)
  refine HT.mul_tup p1 (fun z => hne (r1.nil_iff.mp z)) k1 k2 (by rw [← r1.length]; exact hz) (fun e => ?_) (fun e => ?_)
  · refine ⟨.ref a, H, I, rfl, q a H (Same.refl H) ?_⟩
    rw [e]
    simpa using ha
  · refine ⟨.ref s.heap.objs.size, _, I.laid (t' := s.toks) (o := .tup (List.replicate k.toNat xs).flatten) (fun b ob q => Heap.get?_push_of_some _ q) (Nat.le_refl _) ?_, rfl, q _ _ (same_new (I.hok.fresh (Nat.le_refl _)) _) upd_same⟩
    exact ⟨by rw [len_rep, Nat.mul_comm]; exact hz, _, r1.rep k.toNat, IsTup.new _ _⟩
end
section
variable {X : Cx}
theorem call_reprD {k : Nat} (hr : Room k X.A) : CallR X (.builtin "repr") (fun xs H Q => ∃ (N : Addr → Prop) (v : V) (d : PyData), xs = [v] ∧ Tr N H v d ∧ d.showable = true ∧ d.depth ≤ 60 ∧ d.shown.length ≤ sizeLine ∧ Q (.str d.shown) H) := by
  intro pins s σ H xs us Q I r h
  obtain ⟨N, v, d, rfl, t, h1, h2, h3, q⟩ := h
  have onRef : ∀ b, v = .ref b → wpAny (model X.prog X.w) X.A (call (.builtin "repr") us) (EP X pins σ Q) X.xe s := fun b e => by
    subst e
    exact call_repr hr pins s σ H _ us Q I r ⟨N, b, d, rfl, t, h1, h2, h3, q⟩
  cases t with
  | lst _ _ _ => exact onRef _ rfl
  | tup _ _ _ => exact onRef _ rfl
  | dct _ _ => exact onRef _ rfl
  | non =>
    obtain ⟨u, rfl, rx⟩ := vals1 r
    cases (show u = Value.none from rx)
    exact PySem.P.repr_of_none ⟨.str "None", H, I.tok _, ⟨_, rfl⟩, q⟩
  | bl b =>
    obtain ⟨u, rfl, rx⟩ := vals1 r
    cases (show u = Value.bool b from rx)
    exact PySem.P.repr_of_bool ⟨.str (if b then "True" else "False"), H, I.tok _, ⟨_, rfl⟩, q⟩
  | int i =>
    obtain ⟨u, rfl, rx⟩ := vals1 r
    obtain ⟨t, rfl⟩ := rx
    exact PySem.P.repr_of_int (by simpa [PyData.showable] using h1) ⟨.str (toString i), H, I.tok _, ⟨_, rfl⟩, q⟩
  | str x =>
    obtain ⟨u, rfl, rx⟩ := vals1 r
    obtain ⟨t, rfl⟩ := rx
    exact PySem.P.repr_of_str ⟨.str (reprText x), H, I.tok _, ⟨_, rfl⟩, q⟩ h3
end
section
variable {a : Addr} {H0 : Hp} {σ : St} {te t1 t2 : TE} {ta : TA} {d : PyData} {ds d1 d2 : List PyData} {i j : Int} {K : PySem.W.Frag}
end
def Nq (a q : Addr) : Addr → Prop := fun b => b ≠ a ∧ b ≠ q
structure Wq (a q : Addr) (bs : List V) (H : Hp) : Prop where
  w : Well H a
  at_ : H q = some (.lst bs)
  ne : q ≠ a
section
variable {a q p : Addr} {bs : List V} {H H' : Hp}
theorem Wq.same (x : Wq a q bs H) (s : Same H H') : Wq a q bs H' := ⟨x.w.same s, s _ _ x.at_, x.ne⟩
theorem Wq.but (x : Wq a q bs H) (b : But a H H') (w : Well H' a) : Wq a q bs H' := ⟨w, b _ _ x.ne x.at_, x.ne⟩
theorem Wq.new (x : Wq a q bs H) (h : H p = none) : Nq a q p := ⟨x.w.ne h, fun e => by rw [e, x.at_] at h; cases h⟩
theorem Wq.tup {xs : List V} (x : Wq a q bs H) (h : H p = some (.tup xs)) : Nq a q p := ⟨x.w.net h, fun e => by rw [e, x.at_] at h; cases h⟩
theorem Tr.grow {v : V} {d : PyData} {o : HO} (t : Tr (Nq a q) H v d) : Tr (Nq a q) (upd H q o) v d := t.keep fun b o hb h => by rw [upd_ne hb.2]; exact h
theorem TrAll.grow {v : List V} {d : List PyData} {o : HO} (t : TrAll (Nq a q) H v d) : TrAll (Nq a q) (upd H q o) v d := t.keep fun b o hb h => by rw [upd_ne hb.2]; exact h
abbrev rCatG : R2 := fun x y H Q => ∃ (a b : Addr) (xs ys : List V), x = .ref a ∧ y = .ref b ∧ H a = some (.tup xs) ∧ H b = some (.tup ys) ∧ xs.length + ys.length ≤ sizeLine ∧ ∀ p H', Same H H' → H' p = some (.tup (xs ++ ys)) → Q (.ref p) H'
abbrev rSlG : V → Option Int → Option Int → Hp → VK → Prop := fun x lo hi H Q => ∃ (a : Addr) (xs : List V), x = .ref a ∧ H a = some (.tup xs) ∧ ∀ p H', Same H H' → H' p = some (.tup (cutV xs lo hi)) → Q (.ref p) H'
end
end L2
end
section
set_option Elab.async false
set_option maxRecDepth 10000
set_option linter.all false
namespace L2
open PySem PySem.Spec PyProof.Rows
end L2
namespace Bc
open PySem PySem.Spec PyProof.Rows L2
def mostOf : PyData → Nat
  | .int 1 => 20
  | .int 2 => 10
  | .int 3 => 6
  | _ => 0
def isHeap : PyData → Bool
  | .tuple [w, .list bs] => isWays w && decide (bs.length ≤ mostOf w) && bs.all (isBox w)
  | _ => false
def boxD (n : Nat) : PyData → Bool
  | .tuple es => decide (es.length = n) && es.all bx
  | _ => false
theorem boxD_is {n : Nat} {d : PyData} (h : boxD n d = true) : ∃ es, d = .tuple es ∧ es.length = n ∧ es.all bx = true := by
  cases d with
  | tuple es => simp only [boxD, Bool.and_eq_true, decide_eq_true_eq] at h; exact ⟨es, rfl, h.1, h.2⟩
  | _ => cases h
def MK2 (a q : Addr) (H : Hp) (y : V) : Prop := ∃ r ms, y = .ref r ∧ Nq a q r ∧ H r = some (.lst (ms.map V.int)) ∧ Marks ms
theorem MK2.but {a q : Addr} {H H' : Hp} {y : V} (h : MK2 a q H y) (b : But a H H') : MK2 a q H' y := by
  obtain ⟨r, ms, e, n, hq, m⟩ := h
  exact ⟨r, ms, e, n, b _ _ n.1 hq, m⟩
theorem MK2.grow {a q : Addr} {H : Hp} {y : V} {o : HO} (h : MK2 a q H y) : MK2 a q (upd H q o) y := by
  obtain ⟨r, ms, e, n, hq, m⟩ := h
  exact ⟨r, ms, e, n, by rw [upd_ne n.2]; exact hq, m⟩
end Bc
end
section
set_option Elab.async false
set_option maxRecDepth 10000
set_option linter.all false
namespace L2
open PySem PySem.Spec PyProof.Rows
theorem Inv.turnedS {X : Cx} {pins : List (Addr × Obj)} {σ : St} {H : Hp} {s : Shared} {h' : Heap} {t' : Nat} {fp : List Addr} (I : Inv X pins σ H s) (k : ∀ b o, b ∉ fp → s.heap.get? b = some o → h'.get? b = some o) (hf : ∀ b ∈ fp, FpOk X pins H b) :
    Inv X pins σ H { s with heap := h', toks := t' } := by
  have nit : ∀ b u, H b = some u → b ∉ fp := fun b u e z => by
    have := (hf b z).1
    rw [this] at e
    cases e
  refine I.step (g' := s.gens) (d' := s.drawn) (ch := fp) (fun b hb => ?_) (fun b o _ _ hc e _ => k b o hc e) (fun b o _ _ hc e _ => ⟨o.slots, k b o hc e⟩) (fun _ _ _ _ n => n) (fun b o hc e => ⟨o, k b o hc e⟩) (fun _ _ e => e) (fun _ _ _ e => e)
    (fun b ps e => ⟨#[], by rw [e]; simp⟩) (fun m hm => ?_) (fun b u e => ?_) I.bare id
  · obtain ⟨_, a2, _, a4, a5, a6⟩ := hf b hb
    exact ⟨a4, a2, a5, a6⟩
  · obtain ⟨o, es, ep, ho, r⟩ := hm
    exact ⟨o, es, ep, k _ o (fun z => (hf _ z).2.1 rfl) ho, r⟩
  · refine (I.hok b u e).stay (fun c v hc q => k c v ?_ q) (fun _ q => q) fun _ _ q => q
    rcases hc with z | z
    · rw [z]; exact nit b u e
    · exact nit c _ z
theorem Inv.pairS {X : Cx} {pins : List (Addr × Obj)} {σ : St} {H : Hp} {s : Shared} {h' : Heap} {t' : Nat} {fp : List Addr} {x y : V} {u v : Value} (I : Inv X pins σ H s) (rx : RelV x u) (ry : RelV y v)
    (ht : h'.get? s.heap.objs.size = some { cls := .type "tuple", data := .seq #[u, v] }) (k : ∀ b o, b ∉ fp → s.heap.get? b = some o → h'.get? b = some o) (hf : ∀ b ∈ fp, FpOk X pins H b) (hlt : ∀ b ∈ fp, b < s.heap.objs.size) :
    Inv X pins σ (upd H s.heap.objs.size (.tup [x, y])) { s with heap := h', toks := t' } := by
  have I1 := I.laid (h' := s.heap.push { cls := .type "tuple", data := .seq #[u, v] }) (t' := s.toks) (a := s.heap.objs.size) (o := .tup [x, y]) (fun b ob q => Heap.get?_push_of_some _ q) (Nat.le_refl _)
    ⟨(by decide : 2 ≤ sizeLine), [u, v], .cons rx (.cons ry .nil), IsTup.new _ _⟩
  refine Inv.turnedS (s := { s with heap := s.heap.push { cls := .type "tuple", data := .seq #[u, v] } }) (h' := h') (t' := t') (fp := fp) I1 (fun b o hb e => ?_) (fun b hb => ?_)
  · rcases Heap.get?_push_cases e with ⟨z1, z2⟩ | z
    · rw [z1, z2]
      exact ht
    · exact k b o hb z
  · obtain ⟨a1, a2, a3, a4, a5, a6⟩ := hf b hb
    exact ⟨by rw [upd_ne (Nat.ne_of_lt (hlt b hb))]; exact a1, a2, a3, a4, a5, a6⟩
section
variable {X : Cx}
end
end L2
end
section
set_option Elab.async false
set_option maxRecDepth 100000
set_option linter.all false
namespace HT
open PySem PySem.Spec PyProof.Rows
section
variable {prog : Program} {w : World} {A : Around} {E : Value → Shared → Prop} {s : Shared}
theorem nextT {it t : Addr} {i : Nat} {ws : Array Value} {x : Value} {Q : Value → Shared → Prop} (c : s.heap.IsTupleIter it t i) (ct : s.heap.IsTuple t ws) (ex : ws[i]? = some x)
    (q : ∀ h', h'.IsTupleIter it t (i + 1) → Heap.SameBut it s.heap h' → Q x { s with heap := h' }) : wpAny (model prog w) A (Builtin.SmallTypes.nextOf (.ref it)) Q E s := by
  obtain ⟨o, e0, e1, e2⟩ := id c
  obtain ⟨ot, f0, _, nt, f1⟩ := ct
  unfold Builtin.SmallTypes.nextOf
  refine wpAny_bind (wpAny_callSpecial?_slot (name := Str.ofString "__next__") c.typeIs PySem.F.slot_tuple_iterator_next (wpAny_call_entry PySem.F.slot_tuple_iterator_next c.typeIs PySem.F.entry_tuple_iterator_next ?_ (PySem.F.args_tuple_iterator_next_1 _)))
  refine (show wpAny _ _ (field (.ref it) 0 >>= _) _ _ s from wpAny_bind (wpAny_field e0 e2 (x := .ref t) rfl ?_))
  show wpAny _ _ (ite ((Value.ref t == Value.none) = true) _ _) _ _ s
  rw [if_neg (by exact Bool.false_ne_true)]
  refine (show wpAny _ _ (field (.ref it) 1 >>= _) _ _ s from wpAny_bind (wpAny_field e0 e2 (x := .int i 0) rfl ?_))
  refine (show wpAny _ _ (seqItems? (.ref t) >>= _) _ _ s from wpAny_bind (wpAny_seqItems f0 f1 ?_))
  simp only [ex, Int.toNat_natCast]
  refine wpAny_bind (wpAny_setField e0 e2 (by simp) (wpAny_pure ⟨x, rfl, wpAny_pure (q _ ⟨_, Heap.get?_update_self _ e0 (Obj.isFreed_of_fields (Obj.data_mapFields e2 _)), (Obj.cls_mapFields ..).trans e1, ?_⟩ (Heap.SameBut.update ..))⟩))
  rw [Obj.data_mapFields e2]
  simp [rawInt]
theorem nextTE {it t : Addr} {i : Nat} {ws : Array Value} {Q : Value → Shared → Prop} (ha : A.handled = none) (c : s.heap.IsTupleIter it t i) (ct : s.heap.IsTuple t ws) (ex : ws[i]? = none)
    (q : ∀ h' e, Heap.ExtBut it s.heap h' → (∃ o, h'.get? e = some o ∧ o.cls = .type "StopIteration") → E (.ref e) { s with heap := h' }) : wpAny (model prog w) A (Builtin.SmallTypes.nextOf (.ref it)) Q E s := by
  obtain ⟨o, e0, e1, e2⟩ := id c
  obtain ⟨ot, f0, _, nt, f1⟩ := ct
  unfold Builtin.SmallTypes.nextOf
  refine wpAny_bind (wpAny_callSpecial?_slot (name := Str.ofString "__next__") c.typeIs PySem.F.slot_tuple_iterator_next (wpAny_call_entry PySem.F.slot_tuple_iterator_next c.typeIs PySem.F.entry_tuple_iterator_next ?_ (PySem.F.args_tuple_iterator_next_1 _)))
  refine (show wpAny _ _ (field (.ref it) 0 >>= _) _ _ s from wpAny_bind (wpAny_field e0 e2 (x := .ref t) rfl ?_))
  show wpAny _ _ (ite ((Value.ref t == Value.none) = true) _ _) _ _ s
  rw [if_neg (by exact Bool.false_ne_true)]
  refine (show wpAny _ _ (field (.ref it) 1 >>= _) _ _ s from wpAny_bind (wpAny_field e0 e2 (x := .int i 0) rfl ?_))
  refine (show wpAny _ _ (seqItems? (.ref t) >>= _) _ _ s from wpAny_bind (wpAny_seqItems f0 f1 ?_))
  simp only [ex, Int.toNat_natCast]
  refine wpAny_bind (wpAny_rule (wpAny_bind (wpAny_setField e0 e2 (by simp) (show wpAny _ _ (newExc (.type "StopIteration") [] >>= _) _ _ _ from wpAny_bind ?_))))
  simp only [newTuple, newExc]
  refine wpAny_bind (wpAny_newObj_type (wpAny_bind (m := firstArgMember _ _) (wpAny_of_eq (a := Value.none) (by first | rfl | (simp only [firstArgMember]; rfl)) (wpAny_newObj_type ?_ (by size_fits)))) (by size_fits))
  simp only [raiseNew]
  refine wpAny_bind (wpAny_handled ?_)
  rw [show A.in1.handled = none from ha]
  exact wpAny_bind (wpAny_pure (wpAny_throw (q _ _ (((Heap.SameBut.update ..).extBut.push _).push _) ⟨_, Heap.get?_push_size _ rfl, rfl⟩)))
theorem drawsT (ha : A.handled = none) (it t : Addr) (ne : t ≠ it) (ws : Array Value) : Draws prog w A it [it, t] ws.size (fun i v => ws[i]? = some v) (fun i h => h.IsTupleIter it t i ∧ h.IsTuple t ws) where
  live := fun _ _ st => let ⟨o, e, _⟩ := st.1; ⟨o, e⟩
  frame := fun _ _ _ st k => ⟨st.1.at fun o e => k it (by simp) o e, st.2.at fun o e => k t (by simp) o e⟩
  item := fun i s Q E hi st q => nextT st.1 st.2 (x := ws[i]) (by simp [hi]) fun h' c' sb => q _ h' s.toks (by simp [hi]) ⟨c', st.2.extBut sb.extBut ne⟩ sb
  done := fun s Q E st q => nextTE ha st.1 st.2 (by simp) q
structure Apart (z TI TO i1 i2 : Addr) (fp1 fp2 : List Addr) : Prop where
  a1 : TI ≠ z
  a2 : TO ≠ z
  a3 : TI ≠ TO
  b1 : ∀ b ∈ fp1, b ≠ z ∧ b ≠ TO ∧ b ≠ i2
  b2 : ∀ b ∈ fp2, b ≠ z ∧ b ≠ TO ∧ b ≠ i1
  c1 : i1 ≠ z ∧ i1 ≠ TO ∧ i1 ≠ TI
  c2 : i2 ≠ z ∧ i2 ≠ TO ∧ i2 ≠ TI
  c3 : i1 ≠ i2
section
variable {z TI TO i1 i2 : Addr} {fp1 fp2 : List Addr} {n1 n2 k : Nat} {P1 P2 : Nat → Value → Prop} {S1 S2 : Nat → Heap → Prop} {a b : Value}
theorem zipI {Q : Value → Shared → Prop} (D1 : Draws prog w A i1 fp1 n1 P1 S1) (D2 : Draws prog w A i2 fp2 n2 P2 S2) (D : Apart z TI TO i1 i2 fp1 fp2) (hZ : IsZip s.heap z TI TO .none) (hI : IsPair s.heap TI (.ref i1) (.ref i2)) (hO : IsPair s.heap TO a b)
    (s1 : S1 k s.heap) (s2 : S2 k s.heap) (k1 : k < n1) (k2 : k < n2)
    (q : ∀ x y h' tk, P1 k x → P2 k y → IsZip h' z TI TO (rawInt s.heap.objs.size) → IsPair h' TO x y → S1 (k + 1) h' → S2 (k + 1) h' → IsPair h' s.heap.objs.size x y → h'.objs.size = s.heap.objs.size + 1 →
      (∀ c o, c ≠ z → c ≠ TO → c ≠ i1 → c ≠ i2 → s.heap.get? c = some o → h'.get? c = some o) → Q (.ref s.heap.objs.size) { s with heap := h', toks := tk }) :
    wpAny (model prog w) A (Builtin.«zip.__next__» ⟨[.ref z], []⟩) (fun fin s' => ∃ v, fin = .done (.ret v) ∧ Q v s') E s := by
  obtain ⟨hp, g, d, tk0, os⟩ := s
  refine (show wpAny _ _ (field (.ref z) 2 >>= _) _ _ _ from wpAny_bind (wpAny_field hZ rfl (x := .bool false) rfl ?_))
  refine (show wpAny _ _ (field (.ref z) 3 >>= _) _ _ _ from wpAny_bind (wpAny_field hZ rfl (x := .ref TI) rfl (wpAny_bind (wpAny_seqItems hI rfl ?_))))
  refine (show wpAny _ _ (Builtin.SmallTypes.ownedTupleIsFree (.ref z) >>= _) _ _ _ from wpAny_bind ?_)
  unfold Builtin.SmallTypes.ownedTupleIsFree
  refine wpAny_bind (wpAny_field hZ rfl (x := .none) rfl (wpAny_pure ?_))
  simp only [if_true]
  refine wpAny_bind (wpAny_rule (wpAny_bind (wpAny_field hZ rfl (x := .ref TO) rfl (wpAny_bind (wpAny_setField_rec hZ (by simp) fun g1 z1 m1 => ?_)))))
  replace z1 : IsZip g1 z TI TO .ellipsis := z1
  replace m1 : Heap.SameBut z hp g1 := m1
  refine wpAny_bind ?_
  simp only [List.zipIdx_cons, List.zipIdx_nil, List.forIn_cons, List.forIn_nil]
  have t1 : S1 k g1 := D1.frame _ _ _ s1 fun c hc o e => m1.extBut _ _ (D.b1 c hc).1 e
  have u1 : S2 k g1 := D2.frame _ _ _ s2 fun c hc o e => m1.extBut _ _ (D.b2 c hc).1 e
  refine wpAny_bind (wpAny_bind (wpAny_onRaise (show wpAny _ _ (Builtin.SmallTypes.nextOf (.ref i1) >>= _) _ _ _ from wpAny_bind (D1.item k ⟨g1, g, d, tk0, os⟩ _ _ k1 t1 fun x g2 tk1 px t2 m2 => wpAny_pure ?_))))
  replace m2 : Heap.SameBut i1 g1 g2 := m2
  have o2 : IsPair g2 TO a b := m2.extBut _ _ (Ne.symm D.c1.2.1) (m1.extBut _ _ D.a2 hO)
  refine wpAny_bind (wpAny_seqItems o2 rfl (wpAny_bind (wpAny_updateSeq_pair o2 fun g3 o3 m3 => ?_)))
  replace o3 : IsPair g3 TO x b := o3
  replace m3 : Heap.SameBut TO g2 g3 := m3
  have u3 : S2 k g3 := D2.frame _ _ _ u1 fun c hc o e => m3.extBut _ _ (D.b2 c hc).2.1 (m2.extBut _ _ (D.b2 c hc).2.2 e)
  refine wpAny_bind (wpAny_letGo (wpAny_pure ?_))
  refine wpAny_bind (wpAny_bind (wpAny_onRaise (show wpAny _ _ (Builtin.SmallTypes.nextOf (.ref i2) >>= _) _ _ _ from wpAny_bind (D2.item k ⟨g3, g, d, tk1, os⟩ _ _ k2 u3 fun y g4 tk2 py u4 m4 => wpAny_pure ?_))))
  replace m4 : Heap.SameBut i2 g3 g4 := m4
  have o4 : IsPair g4 TO x b := m4.extBut _ _ (Ne.symm D.c2.2.1) o3
  refine wpAny_bind (wpAny_seqItems o4 rfl (wpAny_bind (wpAny_updateSeq_pair o4 fun g5 o5 m5 => ?_)))
  replace o5 : IsPair g5 TO x y := o5
  replace m5 : Heap.SameBut TO g4 g5 := m5
  refine wpAny_bind (wpAny_letGo (wpAny_pure (wpAny_pure (wpAny_bind (wpAny_seqItems o5 rfl (wpAny_bind (wpAny_newTuple ?_)))))))
  have sz : g5.objs.size = hp.objs.size := by rw [m5.1, m4.1, m3.1, m2.1, m1.1]
  have z5 : IsZip g5 z TI TO .ellipsis := m5.extBut _ _ (Ne.symm D.a2) (m4.extBut _ _ (Ne.symm D.c2.1) (m3.extBut _ _ (Ne.symm D.a2) (m2.extBut _ _ (Ne.symm D.c1.1) z1)))
  have kk : ∀ c o, c ≠ z → c ≠ TO → c ≠ i1 → c ≠ i2 → hp.get? c = some o → g5.get? c = some o := fun c o n1 n2 n3 n4 e => m5.extBut _ _ n2 (m4.extBut _ _ n4 (m3.extBut _ _ n2 (m2.extBut _ _ n3 (m1.extBut _ _ n1 e))))
  have lz : z < g5.objs.size := Heap.lt_size z5
  refine (show wpAny _ _ (Builtin.SmallTypes.ownedTupleHandOut (.ref z) (.ref g5.objs.size) >>= _) _ _ _ from wpAny_bind ?_)
  unfold Builtin.SmallTypes.ownedTupleHandOut
  have z6 : IsZip (g5.push { cls := .type "tuple", data := .seq #[x, y] }) z TI TO .ellipsis := Heap.get?_push_of_some _ z5
  refine wpAny_bind (wpAny_setField_rec z6 (by simp) fun g7 z7 m7 => ?_)
  replace z7 : IsZip g7 z TI TO (rawInt g5.objs.size) := z7
  refine wpAny_setField_rec z7 (by simp) fun g8 z8 m8 => ?_
  replace z8 : IsZip g8 z TI TO (rawInt g5.objs.size) := z8
  have up : ∀ c o, c ≠ z → g5.get? c = some o → g8.get? c = some o := fun c o n e => m8.extBut _ _ n (m7.extBut _ _ n (Heap.get?_push_of_some _ e))
  have p8 : IsPair g8 g5.objs.size x y := m8.extBut _ _ (Nat.ne_of_gt lz) (m7.extBut _ _ (Nat.ne_of_gt lz) (Heap.get?_push_size _ rfl))
  have w8 : g8.objs.size = g5.objs.size + 1 := by rw [m8.1, m7.1, Heap.size_push]
  rw [sz] at z8 p8 w8
  refine wpAny_pure ⟨_, rfl, ?_⟩
  show Q (.ref g5.objs.size) _
  rw [sz]
  refine q x y g8 tk2 px py z8 (up _ _ D.a2 o5) ?_ ?_ p8 w8 fun c o n1 n2 n3 n4 e => up c o n1 (kk c o n1 n2 n3 n4 e)
  · exact D1.frame _ _ _ t2 fun c hc o e => up _ _ (D.b1 c hc).1 (m5.extBut _ _ (D.b1 c hc).2.1 (m4.extBut _ _ (D.b1 c hc).2.2 (m3.extBut _ _ (D.b1 c hc).2.1 e)))
  · exact D2.frame _ _ _ u4 fun c hc o e => up _ _ (D.b2 c hc).1 (m5.extBut _ _ (D.b2 c hc).2.1 e)
theorem zipE {Q : PySem.Fin → Shared → Prop} (D1 : Draws prog w A i1 fp1 n1 P1 S1) (D2 : Draws prog w A i2 fp2 n2 P2 S2) (D : Apart z TI TO i1 i2 fp1 fp2) (hZ : IsZip s.heap z TI TO .none) (hI : IsPair s.heap TI (.ref i1) (.ref i2)) (hO : IsPair s.heap TO a b)
    (s1 : S1 k s.heap) (s2 : S2 k s.heap) (ke : k = n1 ∨ (k < n1 ∧ k = n2))
    (q : ∀ h' e tk, (∀ c o, c ≠ z → c ≠ TO → c ≠ i1 → c ≠ i2 → s.heap.get? c = some o → h'.get? c = some o) → (∃ o, h'.get? e = some o ∧ o.cls = .type "StopIteration") → E (.ref e) { s with heap := h', toks := tk }) :
    wpAny (model prog w) A (Builtin.«zip.__next__» ⟨[.ref z], []⟩) Q E s := by
  obtain ⟨hp, g, d, tk0, os⟩ := s
  refine (show wpAny _ _ (field (.ref z) 2 >>= _) _ _ _ from wpAny_bind (wpAny_field hZ rfl (x := .bool false) rfl ?_))
  refine (show wpAny _ _ (field (.ref z) 3 >>= _) _ _ _ from wpAny_bind (wpAny_field hZ rfl (x := .ref TI) rfl (wpAny_bind (wpAny_seqItems hI rfl ?_))))
  refine (show wpAny _ _ (Builtin.SmallTypes.ownedTupleIsFree (.ref z) >>= _) _ _ _ from wpAny_bind ?_)
  unfold Builtin.SmallTypes.ownedTupleIsFree
  refine wpAny_bind (wpAny_field hZ rfl (x := .none) rfl (wpAny_pure ?_))
  simp only [if_true]
  refine wpAny_bind (wpAny_rule (wpAny_bind (wpAny_field hZ rfl (x := .ref TO) rfl (wpAny_bind (wpAny_setField_rec hZ (by simp) fun g1 z1 m1 => ?_)))))
  replace z1 : IsZip g1 z TI TO .ellipsis := z1
  replace m1 : Heap.SameBut z hp g1 := m1
  refine wpAny_bind ?_
  simp only [List.zipIdx_cons, List.zipIdx_nil, List.forIn_cons, List.forIn_nil]
  have t1 : S1 k g1 := D1.frame _ _ _ s1 fun c hc o e => m1.extBut _ _ (D.b1 c hc).1 e
  have u1 : S2 k g1 := D2.frame _ _ _ s2 fun c hc o e => m1.extBut _ _ (D.b2 c hc).1 e
  rcases ke with ke | ⟨k1, ke⟩
  · subst ke
    refine wpAny_bind (wpAny_bind (wpAny_onRaise (show wpAny _ _ (Builtin.SmallTypes.nextOf (.ref i1) >>= _) _ _ _ from wpAny_bind (D1.done ⟨g1, g, d, tk0, os⟩ _ _ t1 fun g2 e m2 he => ?_))))
    obtain ⟨oe, he1, he2⟩ := he
    replace m2 : Heap.ExtBut i1 g1 g2 := m2
    have z2 : IsZip g2 z TI TO .ellipsis := m2 _ _ (Ne.symm D.c1.1) z1
    have ez : e ≠ z := fun x => by subst x; rw [z2] at he1; cases he1; simp at he2
    exact wpAny_setField_rec z2 (by simp) fun g3 _ m3 => q g3 e _ (fun c o n1 _ n3 _ x => m3.extBut _ _ n1 (m2 _ _ n3 (m1.extBut _ _ n1 x))) ⟨oe, m3.extBut _ _ ez he1, he2⟩
  · refine wpAny_bind (wpAny_bind (wpAny_onRaise (show wpAny _ _ (Builtin.SmallTypes.nextOf (.ref i1) >>= _) _ _ _ from wpAny_bind (D1.item k ⟨g1, g, d, tk0, os⟩ _ _ k1 t1 fun x g2 tk1 px t2 m2 => wpAny_pure ?_))))
    replace m2 : Heap.SameBut i1 g1 g2 := m2
    have o2 : IsPair g2 TO a b := m2.extBut _ _ (Ne.symm D.c1.2.1) (m1.extBut _ _ D.a2 hO)
    refine wpAny_bind (wpAny_seqItems o2 rfl (wpAny_bind (wpAny_updateSeq_pair o2 fun g3 o3 m3 => ?_)))
    replace m3 : Heap.SameBut TO g2 g3 := m3
    have u3 : S2 k g3 := D2.frame _ _ _ u1 fun c hc o e => m3.extBut _ _ (D.b2 c hc).2.1 (m2.extBut _ _ (D.b2 c hc).2.2 e)
    rw [ke] at u3
    refine wpAny_bind (wpAny_letGo (wpAny_pure ?_))
    refine wpAny_bind (wpAny_bind (wpAny_onRaise (show wpAny _ _ (Builtin.SmallTypes.nextOf (.ref i2) >>= _) _ _ _ from wpAny_bind (D2.done ⟨g3, g, d, tk1, os⟩ _ _ u3 fun g4 e m4 he => ?_))))
    obtain ⟨oe, he1, he2⟩ := he
    replace m4 : Heap.ExtBut i2 g3 g4 := m4
    have z4 : IsZip g4 z TI TO .ellipsis := m4 _ _ (Ne.symm D.c2.1) (m3.extBut _ _ (Ne.symm D.a2) (m2.extBut _ _ (Ne.symm D.c1.1) z1))
    have ez : e ≠ z := fun x => by subst x; rw [z4] at he1; cases he1; simp at he2
    exact wpAny_setField_rec z4 (by simp) fun g5 _ m5 => q g5 e _ (fun c o n1 n2 n3 n4 x => m5.extBut _ _ n1 (m4 _ _ n4 (m3.extBut _ _ n2 (m2.extBut _ _ n3 (m1.extBut _ _ n1 x))))) ⟨oe, m5.extBut _ _ ez he1, he2⟩
theorem zipNext {Q : Option Value → Shared → Prop} (D1 : Draws prog w A.in1 i1 fp1 n1 P1 S1) (D2 : Draws prog w A.in1 i2 fp2 n2 P2 S2) (D : Apart z TI TO i1 i2 fp1 fp2) (hZ : IsZip s.heap z TI TO .none) (hI : IsPair s.heap TI (.ref i1) (.ref i2)) (hO : IsPair s.heap TO a b)
    (s1 : S1 k s.heap) (s2 : S2 k s.heap) (k1 : k < n1) (k2 : k < n2)
    (q : ∀ x y h' tk, P1 k x → P2 k y → IsZip h' z TI TO (rawInt s.heap.objs.size) → IsPair h' TO x y → S1 (k + 1) h' → S2 (k + 1) h' → IsPair h' s.heap.objs.size x y → h'.objs.size = s.heap.objs.size + 1 →
      (∀ c o, c ≠ z → c ≠ TO → c ≠ i1 → c ≠ i2 → s.heap.get? c = some o → h'.get? c = some o) → Q (some (.ref s.heap.objs.size)) { s with heap := h', toks := tk }) :
    wpAny (model prog w) A (pyNext (.ref z)) Q E s := by
  have T : s.TypeIs (.ref z) "zip" := ⟨_, hZ, rfl⟩
  unfold pyNext
  exact wpAny_bind (wpAny_attempt (wpAny_callSpecial?_slot (name := Str.ofString "__next__") T PySem.F.slot_zip_next (wpAny_call_entry PySem.F.slot_zip_next T PySem.F.entry_zip_next (zipI D1 D2 D hZ hI hO s1 s2 k1 k2 fun x y h' tk c1 c2 c3 c4 c5 c6 c7 c8 c9 => wpAny_pure (q x y h' tk c1 c2 c3 c4 c5 c6 c7 c8 c9)) (PySem.F.args_zip_next_1 _))))
theorem zipStop {Q : Option Value → Shared → Prop} (D1 : Draws prog w A.in1 i1 fp1 n1 P1 S1) (D2 : Draws prog w A.in1 i2 fp2 n2 P2 S2) (D : Apart z TI TO i1 i2 fp1 fp2) (hZ : IsZip s.heap z TI TO .none) (hI : IsPair s.heap TI (.ref i1) (.ref i2)) (hO : IsPair s.heap TO a b)
    (s1 : S1 k s.heap) (s2 : S2 k s.heap) (ke : k = n1 ∨ (k < n1 ∧ k = n2))
    (q : ∀ h' tk, (∀ c o, c ≠ z → c ≠ TO → c ≠ i1 → c ≠ i2 → s.heap.get? c = some o → h'.get? c = some o) → Q none { s with heap := h', toks := tk }) : wpAny (model prog w) A (pyNext (.ref z)) Q E s := by
  have T : s.TypeIs (.ref z) "zip" := ⟨_, hZ, rfl⟩
  unfold pyNext
  refine wpAny_bind (wpAny_attempt (wpAny_callSpecial?_slot (name := Str.ofString "__next__") T PySem.F.slot_zip_next (wpAny_call_entry PySem.F.slot_zip_next T PySem.F.entry_zip_next (zipE D1 D2 D hZ hI hO s1 s2 ke fun h' e tk kk he => ?_) (PySem.F.args_zip_next_1 _))))
  obtain ⟨o, e1, e2⟩ := he
  exact wpAny_bind (wpAny_isInstance (T := "StopIteration") (b := true) ⟨o, e1, e2⟩ isSubtype_stop (wpAny_pure (q h' tk kk)))
end
abbrev itO (c : String) (l : Addr) : Obj := { cls := .type c, data := .fields #[.ref l, .int 0 0] }
abbrev zt1 (c1 : String) (h : Heap) (l1 : Addr) : Heap := h.push (itO c1 l1)
abbrev zt2 (c1 c2 : String) (h : Heap) (l1 l2 : Addr) : Heap := (zt1 c1 h l1).push (itO c2 l2)
abbrev zt3 (c1 c2 : String) (h : Heap) (l1 l2 : Addr) : Heap := (zt2 c1 c2 h l1 l2).push { cls := .type "tuple", data := .seq #[.ref h.objs.size, .ref (zt1 c1 h l1).objs.size] }
abbrev zt4 (c1 c2 : String) (h : Heap) (l1 l2 : Addr) : Heap := (zt3 c1 c2 h l1 l2).push { cls := .type "tuple", data := .seq #[.none, .none] }
abbrev zt5 (c1 c2 : String) (h : Heap) (l1 l2 : Addr) : Heap := (zt4 c1 c2 h l1 l2).push { cls := .type "zip", data := .fields #[.none, .bool false, .bool false, .ref (zt2 c1 c2 h l1 l2).objs.size, .ref (zt3 c1 c2 h l1 l2).objs.size] }
theorem zipNewT (l1 l2 : Addr) (xs ys : Array Value) : Meets (Builtin.«zip.__new__» ⟨[.type "zip", .ref l1, .ref l2], []⟩) (fun _ R s => s.heap.IsTuple l1 xs ∧ s.heap.IsTuple l2 ys ∧ R (.ok (.ret (.ref (zt4 "tuple_iterator" "tuple_iterator" s.heap l1 l2).objs.size))) { s with heap := zt5 "tuple_iterator" "tuple_iterator" s.heap l1 l2 }) :=
  .of_wp fun prog w A R s h => by
    obtain ⟨hp, g, d, tk, os⟩ := s
    obtain ⟨e1, e2, h⟩ := h
    have sub := sub_zip
    have T1 : Heap.IsTuple (Shared.heap ⟨hp, g, d, tk, os⟩) l1 xs := e1
    have T2 : Heap.IsTuple (Shared.heap ⟨hp.push { cls := .type "tuple_iterator", data := .fields #[.ref l1, .int 0 0] }, g, d, tk, os⟩) l2 ys := Heap.IsTuple.push e2 _
    wp_walk using wpAny_pyIter_tuple T1, wpAny_pyIter_tuple T2
    exact ⟨_, rfl, h⟩
theorem zipNewM (l1 l2 : Addr) (xs ys : Array Value) : Meets (Builtin.«zip.__new__» ⟨[.type "zip", .ref l1, .ref l2], []⟩) (fun _ R s => s.heap.IsList l1 xs ∧ s.heap.IsTuple l2 ys ∧ R (.ok (.ret (.ref (zt4 "list_iterator" "tuple_iterator" s.heap l1 l2).objs.size))) { s with heap := zt5 "list_iterator" "tuple_iterator" s.heap l1 l2 }) :=
  .of_wp fun prog w A R s h => by
    obtain ⟨hp, g, d, tk, os⟩ := s
    obtain ⟨e1, e2, h⟩ := h
    have sub := sub_zip
    have T1 : Heap.IsList (Shared.heap ⟨hp, g, d, tk, os⟩) l1 xs := e1
    have T2 : Heap.IsTuple (Shared.heap ⟨hp.push { cls := .type "list_iterator", data := .fields #[.ref l1, .int 0 0] }, g, d, tk, os⟩) l2 ys := Heap.IsTuple.push e2 _
    wp_walk using wpAny_pyIter_list T1, wpAny_pyIter_tuple T2
    exact ⟨_, rfl, h⟩
theorem callZipC {c1 c2 : String} {l1 l2 : Addr} {P1 P2 : Heap → Prop} {Q : Value → Shared → Prop} (m : Meets (Builtin.«zip.__new__» ⟨[.type "zip", .ref l1, .ref l2], []⟩) (fun _ R s => P1 s.heap ∧ P2 s.heap ∧ R (.ok (.ret (.ref (zt4 c1 c2 s.heap l1 l2).objs.size))) { s with heap := zt5 c1 c2 s.heap l1 l2 })) (e1 : P1 s.heap) (e2 : P2 s.heap)
    (q : ∀ h', IsZip h' (s.heap.objs.size + 4) (s.heap.objs.size + 2) (s.heap.objs.size + 3) .none → IsPair h' (s.heap.objs.size + 2) (.ref s.heap.objs.size) (.ref (s.heap.objs.size + 1)) → IsPair h' (s.heap.objs.size + 3) .none .none →
      h'.get? s.heap.objs.size = some (itO c1 l1) → h'.get? (s.heap.objs.size + 1) = some (itO c2 l2) → (∀ c o, s.heap.get? c = some o → h'.get? c = some o) → Q (.ref (s.heap.objs.size + 4)) { s with heap := h' }) :
    wpAny (model prog w) A (call (.type "zip") [.ref l1, .ref l2]) Q E s := by
  refine callType_new PySem.F.called_zip (by decide) (PySem.F.typeCall_zip_2 _ _) (PySem.F.newCall_zip_2 _ _) (fun obj => PySem.F.args_object_init_3 obj _ _) PySem.F.entry_zip_new m ⟨e1, e2, ?_⟩
  have z1 : (zt1 c1 s.heap l1).objs.size = s.heap.objs.size + 1 := Heap.size_push ..
  have z2 : (zt2 c1 c2 s.heap l1 l2).objs.size = s.heap.objs.size + 2 := by rw [Heap.size_push, z1]
  have z3 : (zt3 c1 c2 s.heap l1 l2).objs.size = s.heap.objs.size + 3 := by rw [Heap.size_push, z2]
  have z4 : (zt4 c1 c2 s.heap l1 l2).objs.size = s.heap.objs.size + 4 := by rw [Heap.size_push, z3]
  have g5 : (zt5 c1 c2 s.heap l1 l2).get? (zt4 c1 c2 s.heap l1 l2).objs.size = some _ := Heap.get?_push_size _ rfl
  have g4 : (zt5 c1 c2 s.heap l1 l2).get? (zt3 c1 c2 s.heap l1 l2).objs.size = some _ := Heap.get?_push_of_some _ (Heap.get?_push_size _ rfl)
  have g3 : (zt5 c1 c2 s.heap l1 l2).get? (zt2 c1 c2 s.heap l1 l2).objs.size = some _ := Heap.get?_push_of_some _ (Heap.get?_push_of_some _ (Heap.get?_push_size _ rfl))
  have g2 : (zt5 c1 c2 s.heap l1 l2).get? (zt1 c1 s.heap l1).objs.size = some _ := Heap.get?_push_of_some _ (Heap.get?_push_of_some _ (Heap.get?_push_of_some _ (Heap.get?_push_size _ rfl)))
  have g1 : (zt5 c1 c2 s.heap l1 l2).get? s.heap.objs.size = some _ := Heap.get?_push_of_some _ (Heap.get?_push_of_some _ (Heap.get?_push_of_some _ (Heap.get?_push_of_some _ (Heap.get?_push_size _ rfl))))
  have kk : ∀ c o, s.heap.get? c = some o → (zt5 c1 c2 s.heap l1 l2).get? c = some o := fun c o e => Heap.get?_push_of_some _ (Heap.get?_push_of_some _ (Heap.get?_push_of_some _ (Heap.get?_push_of_some _ (Heap.get?_push_of_some _ e))))
  show _ ∧ _
  rw [z2, z3, z4] at g5
  rw [z1, z2] at g3
  rw [z3] at g4
  rw [z1] at g2
  have Z : IsZip (zt5 c1 c2 s.heap l1 l2) (s.heap.objs.size + 4) (s.heap.objs.size + 2) (s.heap.objs.size + 3) .none := g5
  rw [z4]
  exact ⟨⟨_, Z, rfl⟩, q _ Z g3 g4 g1 g2 kk⟩
theorem callZipT {l1 l2 : Addr} {xs ys : Array Value} {Q : Value → Shared → Prop} (e1 : s.heap.IsTuple l1 xs) (e2 : s.heap.IsTuple l2 ys)
    (q : ∀ h', IsZip h' (s.heap.objs.size + 4) (s.heap.objs.size + 2) (s.heap.objs.size + 3) .none → IsPair h' (s.heap.objs.size + 2) (.ref s.heap.objs.size) (.ref (s.heap.objs.size + 1)) → IsPair h' (s.heap.objs.size + 3) .none .none →
      h'.IsTupleIter s.heap.objs.size l1 0 → h'.IsTupleIter (s.heap.objs.size + 1) l2 0 → (∀ c o, s.heap.get? c = some o → h'.get? c = some o) → Q (.ref (s.heap.objs.size + 4)) { s with heap := h' }) :
    wpAny (model prog w) A (call (.type "zip") [.ref l1, .ref l2]) Q E s :=
  callZipC (P1 := fun h => h.IsTuple l1 xs) (P2 := fun h => h.IsTuple l2 ys) (zipNewT l1 l2 xs ys) e1 e2 fun h' c1 c2 c3 c4 c5 k => q h' c1 c2 c3 ⟨_, c4, rfl, rfl⟩ ⟨_, c5, rfl, rfl⟩ k
theorem callZipM {l1 l2 : Addr} {xs ys : Array Value} {Q : Value → Shared → Prop} (e1 : s.heap.IsList l1 xs) (e2 : s.heap.IsTuple l2 ys)
    (q : ∀ h', IsZip h' (s.heap.objs.size + 4) (s.heap.objs.size + 2) (s.heap.objs.size + 3) .none → IsPair h' (s.heap.objs.size + 2) (.ref s.heap.objs.size) (.ref (s.heap.objs.size + 1)) → IsPair h' (s.heap.objs.size + 3) .none .none →
      h'.IsListIter s.heap.objs.size l1 0 → h'.IsTupleIter (s.heap.objs.size + 1) l2 0 → (∀ c o, s.heap.get? c = some o → h'.get? c = some o) → Q (.ref (s.heap.objs.size + 4)) { s with heap := h' }) :
    wpAny (model prog w) A (call (.type "zip") [.ref l1, .ref l2]) Q E s :=
  callZipC (P1 := fun h => h.IsList l1 xs) (P2 := fun h => h.IsTuple l2 ys) (zipNewM l1 l2 xs ys) e1 e2 fun h' c1 c2 c3 c4 c5 k => q h' c1 c2 c3 ⟨_, c4, rfl, rfl⟩ ⟨_, c5, rfl, rfl⟩ k
end
end HT
end
section
set_option Elab.async false
set_option maxRecDepth 10000
set_option linter.all false
namespace L2
open PySem PySem.Spec PyProof.Rows
def HB (L : Bool) (xs : List V) : HO := if L = true then .lst xs else .tup xs
theorem HB.inj {L : Bool} {xs ys : List V} (h : HB L xs = HB L ys) : xs = ys := by cases L <;> cases h <;> rfl
def Itz (L M : Bool) (a b : Addr) : It :=
  ⟨fun i H => ∃ xs ys x y, H a = some (HB L xs) ∧ H b = some (HB M ys) ∧ xs[i]? = some x ∧ ys[i]? = some y,
   fun i H v H' => ∃ p x y, H p = none ∧ v = .ref p ∧ H' = upd H p (.tup [x, y]) ∧ (∀ xs, H a = some (HB L xs) → xs[i]? = some x) ∧ ∀ ys, H b = some (HB M ys) → ys[i]? = some y,
   fun i H => ∃ xs ys, H a = some (HB L xs) ∧ H b = some (HB M ys) ∧ (i = xs.length ∨ (i < xs.length ∧ i = ys.length))⟩
def IterB (L : Bool) (h : Heap) (it a : Addr) (i : Nat) : Prop := if L = true then h.IsListIter it a i else h.IsTupleIter it a i
def SeqB (L : Bool) (h : Heap) (a : Addr) (ws : Array Value) : Prop := if L = true then h.IsList a ws else h.IsTuple a ws
theorem drawsB {prog : Program} {w : World} {A : Around} (L : Bool) (ha : A.handled = none) (it t : Addr) (ne : t ≠ it) (ws : Array Value) : Draws prog w A it [it, t] ws.size (fun i v => ws[i]? = some v) (fun i h => IterB L h it t i ∧ SeqB L h t ws) := by
  cases L with
  | true => exact Draws.list ha it t ne ws
  | false => exact HT.drawsT ha it t ne ws
theorem IterB.at {L : Bool} {h h' : Heap} {it a : Addr} {i : Nat} (x : IterB L h it a i) (k : ∀ o, h.get? it = some o → h'.get? it = some o) : IterB L h' it a i := by
  cases L with
  | true => exact Heap.IsListIter.at x k
  | false => exact Heap.IsTupleIter.at x k
theorem IterB.obj {L : Bool} {h : Heap} {it a : Addr} {i : Nat} (x : IterB L h it a i) : ∃ o vs, h.get? it = some o ∧ o.data = .fields vs := by
  cases L with
  | true => obtain ⟨o, e, _, d⟩ := (show h.IsListIter it a i from x); exact ⟨o, _, e, d⟩
  | false => obtain ⟨o, e, _, d⟩ := (show h.IsTupleIter it a i from x); exact ⟨o, _, e, d⟩
theorem Inv.seqB {X : Cx} {pins : List (Addr × Obj)} {σ : St} {H : Hp} {s : Shared} {L : Bool} {a : Addr} {xs : List V} (I : Inv X pins σ H s) (h : H a = some (HB L xs)) : ∃ its : List Value, Vals xs its ∧ SeqB L s.heap a its.toArray := by
  cases L with
  | true => obtain ⟨its, rv, p, _⟩ := I.list (SqL.of h); exact ⟨its, rv, p.isList⟩
  | false => obtain ⟨its, rv, p, _⟩ := I.tuple (SqT.of h); exact ⟨its, rv, p⟩
def ZipSt (L M : Bool) (a b z TI TO i1 i2 : Addr) (i : Nat) (h : Heap) : Prop := IsZip h z TI TO .none ∧ IsPair h TI (.ref i1) (.ref i2) ∧ (∃ c d, IsPair h TO c d) ∧ IterB L h i1 a i ∧ IterB M h i2 b i
theorem apart_of {z TI TO i1 i2 a b : Addr} (d1 : TI ≠ z) (d2 : TO ≠ z) (d3 : TI ≠ TO) (d4 : i1 ≠ z ∧ i1 ≠ TO ∧ i1 ≠ TI) (d5 : i2 ≠ z ∧ i2 ≠ TO ∧ i2 ≠ TI) (d6 : i1 ≠ i2) (na : a ∉ [z, TI, TO, i1, i2]) (nb : b ∉ [z, TI, TO, i1, i2]) : HT.Apart z TI TO i1 i2 [i1, a] [i2, b] where
  a1 := d1
  a2 := d2
  a3 := d3
  b1 := fun c hc => by
    simp only [List.mem_cons, List.not_mem_nil, or_false, not_or] at hc na
    rcases hc with rfl | rfl
    · exact ⟨d4.1, d4.2.1, d6⟩
    · exact ⟨na.1, na.2.2.1, na.2.2.2.2⟩
  b2 := fun c hc => by
    simp only [List.mem_cons, List.not_mem_nil, or_false, not_or] at hc nb
    rcases hc with rfl | rfl
    · exact ⟨d5.1, d5.2.1, Ne.symm d6⟩
    · exact ⟨nb.1, nb.2.2.1, nb.2.2.2.1⟩
  c1 := d4
  c2 := d5
  c3 := d6
theorem turn_zip {P : Program} {w : World} {K : PySem.W.Frag} {elts : List Expr} {x1 : Nat} {pos : Pos} (L M : Bool) (a b z TI TO i1 i2 : Addr) (d1 : TI ≠ z) (d2 : TO ≠ z) (d3 : TI ≠ TO) (d4 : i1 ≠ z ∧ i1 ≠ TO ∧ i1 ≠ TI) (d5 : i2 ≠ z ∧ i2 ≠ TO ∧ i2 ≠ TI) (d6 : i1 ≠ i2) :
    Turn P w K (.Tuple elts x1 pos) (Itz L M a b) [z, TI, TO, i1, i2] z (ZipSt L M a b z TI TO i1 i2) where
  mem := by simp
  obj := fun i h st c hc => by
    obtain ⟨h1, h2, ⟨c', d', h3⟩, h4, h5⟩ := st
    simp only [List.mem_cons, List.not_mem_nil, or_false] at hc
    rcases hc with rfl | rfl | rfl | rfl | rfl
    · exact ⟨_, h1, fun v q => by cases q⟩
    · exact ⟨_, h2, fun v q => by cases q⟩
    · exact ⟨_, h3, fun v q => by cases q⟩
    · obtain ⟨o, vs, e, d⟩ := h4.obj
      exact ⟨o, e, fun v q => by rw [d] at q; cases q⟩
    · obtain ⟨o, vs, e, d⟩ := h5.obj
      exact ⟨o, e, fun v q => by rw [d] at q; cases q⟩
  keep := fun i h h' st k => by
    obtain ⟨h1, h2, ⟨c', d', h3⟩, h4, h5⟩ := st
    exact ⟨k z (by simp) _ h1, k TI (by simp) _ h2, ⟨c', d', k TO (by simp) _ h3⟩, h4.at fun o q => k i1 (by simp) o q, h5.at fun o q => k i2 (by simp) o q⟩
  item := by
    intro X hP hw hK hc i pins s σ H E I hf st hg
    subst hP hw hK
    obtain ⟨xs, ys, x, y, hq1, hq2, hx, hy⟩ := hg
    obtain ⟨its1, rv1, p1⟩ := I.seqB hq1
    obtain ⟨its2, rv2, p2⟩ := I.seqB hq2
    obtain ⟨u, hu, ru⟩ := rv1.get hx
    obtain ⟨v, hv, rv⟩ := rv2.get hy
    obtain ⟨h1, h2, ⟨c', d', h3⟩, h4, h5⟩ := st
    have lt : ∀ c ∈ [z, TI, TO, i1, i2], c < s.heap.objs.size := fun c hc => by
      simp only [List.mem_cons, List.not_mem_nil, or_false] at hc
      rcases hc with rfl | rfl | rfl | rfl | rfl
      · exact Heap.lt_size h1
      · exact Heap.lt_size h2
      · exact Heap.lt_size h3
      · obtain ⟨o, vs, e, _⟩ := h4.obj; exact Heap.lt_size e
      · obtain ⟨o, vs, e, _⟩ := h5.obj; exact Heap.lt_size e
    have na : a ∉ [z, TI, TO, i1, i2] := fun q => by rw [(hf a q).1] at hq1; cases hq1
    have nb : b ∉ [z, TI, TO, i1, i2] := fun q => by rw [(hf b q).1] at hq2; cases hq2
    have ap := apart_of d1 d2 d3 d4 d5 d6 na nb
    have hh : X.A.in1.handled = none := I.ok.hd hc
    refine HT.zipNext (drawsB L hh i1 a (fun q => na (by simp [q])) its1.toArray) (drawsB M hh i2 b (fun q => nb (by simp [q])) its2.toArray) ap h1 h2 h3 ⟨h4, p1⟩ ⟨h5, p2⟩ (by rw [List.size_toArray]; exact (List.getElem?_eq_some_iff.mp hu).1) (by rw [List.size_toArray]; exact (List.getElem?_eq_some_iff.mp hv).1)
      fun x' y' h' tk q1 q2 z' o' s1' s2' tp sz k => ⟨_, rfl, ?_⟩
    have q1' : its1[i]? = some x' := by simpa using q1
    have q2' : its2[i]? = some y' := by simpa using q2
    rw [hu] at q1'
    rw [hv] at q2'
    cases q1'
    cases q2'
    refine wpAny_letOwnedTupleGo_zip z' fun h3' z2 sb => ?_
    have sb' : Heap.SameBut z h' h3' := sb
    have nz : s.heap.objs.size ≠ z := Nat.ne_of_gt (lt z (by simp))
    have J := I.pairS (h' := h3') (t' := tk) (fp := [z, TI, TO, i1, i2]) (x := x) (y := y) ru rv (sb'.extBut _ _ nz tp) (fun c o hc q => by
      simp only [List.mem_cons, List.not_mem_nil, or_false, not_or] at hc
      exact sb'.extBut _ _ hc.1 (k c o hc.1 hc.2.2.1 hc.2.2.2.1 hc.2.2.2.2 q)) hf lt
    refine ⟨.ref s.heap.objs.size, _, J, rfl, ⟨_, x, y, I.hok.fresh (Nat.le_refl _), rfl, rfl, fun zs hz => ?_, fun zs hz => ?_⟩, ⟨z2, ?_, ⟨_, _, sb'.extBut _ _ d2 o'⟩, s1'.1.at fun o q => sb'.extBut _ _ d4.1 q, s2'.1.at fun o q => sb'.extBut _ _ d5.1 q⟩, fun c hc => ?_⟩
    · rw [hq1] at hz
      rw [← HB.inj (Option.some.inj hz)]
      exact hx
    · rw [hq2] at hz
      rw [← HB.inj (Option.some.inj hz)]
      exact hy
    · exact sb'.extBut _ _ d1 (k TI _ d1 d3 (Ne.symm d4.2.2) (Ne.symm d5.2.2) h2)
    · rw [upd_ne (Nat.ne_of_lt (lt c hc))]
      exact (hf c hc).1
  done := by
    intro X hP hw hK hc i pins s σ H E I hf st hg
    subst hP hw hK
    obtain ⟨xs, ys, hq1, hq2, ke⟩ := hg
    obtain ⟨its1, rv1, p1⟩ := I.seqB hq1
    obtain ⟨its2, rv2, p2⟩ := I.seqB hq2
    obtain ⟨h1, h2, ⟨c', d', h3⟩, h4, h5⟩ := st
    have na : a ∉ [z, TI, TO, i1, i2] := fun q => by rw [(hf a q).1] at hq1; cases hq1
    have nb : b ∉ [z, TI, TO, i1, i2] := fun q => by rw [(hf b q).1] at hq2; cases hq2
    have hh : X.A.in1.handled = none := I.ok.hd hc
    refine HT.zipStop (drawsB L hh i1 a (fun q => na (by simp [q])) its1.toArray) (drawsB M hh i2 b (fun q => nb (by simp [q])) its2.toArray) (apart_of d1 d2 d3 d4 d5 d6 na nb) h1 h2 h3 ⟨h4, p1⟩ ⟨h5, p2⟩ (by rw [List.size_toArray, List.size_toArray, ← rv1.length, ← rv2.length]; exact ke)
      fun h' tk k => ⟨rfl, I.turnedS (t' := tk) (fp := [z, TI, TO, i1, i2]) (fun c o hc q => ?_) hf⟩
    simp only [List.mem_cons, List.not_mem_nil, or_false, not_or] at hc
    exact k c o hc.1 hc.2.2.1 hc.2.2.2.1 hc.2.2.2.2 q
  self := fun _ _ _ _ _ st h => wpAny_pyIter_zip st.1 h
abbrev iZip (L M : Bool) (ta : TA) : TI := fun σ H R => ta σ H fun vs H1 => ∃ a b xs ys, vs = [.ref a, .ref b] ∧ H1 a = some (HB L xs) ∧ H1 b = some (HB M ys) ∧ R (Itz L M a b) H1
section
variable {X : Cx}
theorem pi_zip (L M : Bool) (hLM : L = M ∨ (L = true ∧ M = false)) {a b : Expr} {ta : TA} {p pos : Pos} {elts : List Expr} {x1 : Nat} {tpos : Pos} (hg : Gl X "zip") (hm : X.mg "zip" = none) (ha : PA X [a, b] ta) (hs : starEach [a, b] X.env = [(false, eval a X.env), (false, eval b X.env)] := by rfl) (hs2 : starEach [b] X.env = [(false, eval b X.env)] := by rfl) :
    PI X (.Tuple elts x1 tpos) (.Call (.Name "zip" p) [a, b] [] pos) (iZip L M ta) := by
  intro pins s σ H R I h
  refine Call_ (ld_blt I hg hm (by decide +kernel : bootBuiltins "zip" = some (.type "zip")) (PyProof.Rows.callWith_type1 (thn (ha pos pins s σ H _ I h) fun us s1 ⟨vs, H1, I1, r1, q1⟩ => ?_) (by rw [hs, hs2]) (by rw [hs2]; rfl)))
  obtain ⟨l, m, xs, ys, e, e1, e2, q⟩ := q1
  subst e
  obtain ⟨us1, us2⟩ : us = [.ref l, .ref m] ∧ True := by
    cases r1 with
    | cons r rr =>
      cases rr with
      | cons r' rr =>
        cases rr
        cases r
        cases r'
        exact ⟨rfl, trivial⟩
  subst us1
  obtain ⟨its1, rv1, p1⟩ := I1.seqB e1
  obtain ⟨its2, rv2, p2⟩ := I1.seqB e2
  have fin : ∀ h', IsZip h' (s1.heap.objs.size + 4) (s1.heap.objs.size + 2) (s1.heap.objs.size + 3) .none → IsPair h' (s1.heap.objs.size + 2) (.ref s1.heap.objs.size) (.ref (s1.heap.objs.size + 1)) → IsPair h' (s1.heap.objs.size + 3) .none .none →
      IterB L h' s1.heap.objs.size l 0 → IterB M h' (s1.heap.objs.size + 1) m 0 → (∀ c o, s1.heap.get? c = some o → h'.get? c = some o) → wpAny (model X.prog X.w) X.A (pyIter (.ref (s1.heap.objs.size + 4))) (PIE X pins σ (.Tuple elts x1 tpos) R) X.xe { s1 with heap := h' } := fun h' c1 c2 c3 c4 c5 k => by
    refine wpAny_pyIter_zip c1 ?_
    refine ⟨s1.heap.objs.size + 4, [s1.heap.objs.size + 4, s1.heap.objs.size + 2, s1.heap.objs.size + 3, s1.heap.objs.size, s1.heap.objs.size + 1], _, _, H1, rfl, I1.kept (t' := s1.toks) k,
      turn_zip L M l m _ _ _ _ _ (by simp) (by simp) (by simp) ⟨by simp, by simp, by simp⟩ ⟨by simp, by simp, by simp⟩ (by simp), ⟨c1, c2, ⟨_, _, c3⟩, c4, c5⟩, fun c hc => ?_, q⟩
    have hc' : s1.heap.objs.size ≤ c := by
      simp only [List.mem_cons, List.not_mem_nil, or_false] at hc
      rcases hc with rfl | rfl | rfl | rfl | rfl <;> first | exact Nat.le_add_right _ _ | exact Nat.le_refl _
    exact I1.fpOk hc' (I1.hok.fresh hc')
  cases L with
  | true =>
    cases M with
    | true => exact call_zip_2 p1 p2 fun h' c1 c2 c3 c4 c5 _ k => fin h' c1 c2 c3 c4 c5 k
    | false => exact HT.callZipM p1 p2 fun h' c1 c2 c3 c4 c5 k => fin h' c1 c2 c3 c4 c5 k
  | false =>
    cases M with
    | true => rcases hLM with z | ⟨z, _⟩ <;> cases z
    | false => exact HT.callZipT p1 p2 fun h' c1 c2 c3 c4 c5 k => fin h' c1 c2 c3 c4 c5 k
end
end L2
end
section
set_option Elab.async false
set_option maxRecDepth 10000
set_option linter.all false
namespace L2
open PySem PySem.Spec PyProof.Rows
section
variable {k : Nat} {caps : List Nat} {σ : St} {g : TG} {tt : TT} {te : TE} {Q : VK} {H : Hp}
end
end L2
end
section
set_option Elab.async false
set_option maxRecDepth 100000
set_option linter.all false
namespace HT
open PySem PySem.Spec PyProof.Rows
section
variable {prog : Program} {w : World} {A : Around} {E : Value → Shared → Prop} {s : Shared}
theorem isi_tup {x : Value} {Tx : String} {tp : Addr} {cs : List Value} {vs : List Bool} {dd : Option Addr} {n : Nat} {sl : Array (Option Value)} (ha : AnswersAll (fun s => s.TypeIs x Tx) x cs vs) :
    Meets (Builtin.«isinstance» ⟨[x, .ref tp], []⟩) (fun _ R s => s.TypeIs x Tx ∧ s.heap.get? tp = some { cls := .type "tuple", dict := dd, data := .seq cs.toArray n, slots := sl } ∧ ∀ tk, R (.ok (.ret (.bool (vs.any id)))) { s with toks := tk }) :=
  fun prog w A R s hs => isinstance_outer (by
    obtain ⟨h, g, d, t, os⟩ := s
    obtain ⟨hx, htp, hq⟩ := hs
    have T2 : (⟨h, g, d, t, os⟩ : Shared).TypeIs (.ref tp) "tuple" := ⟨_, htp, rfl⟩
    have f1 := PySem.F.isi_sub_tuple
    repeat (any_goals first | assumption | wp_step)
    refine wpAny_arrayLoop ?_
    simp only [List.toList_toArray, Option.getD_some]
    refine isinstance_items (dep := 0) (fun _ tk q => q.toks tk) cs vs _ _ ha hx fun tk' => ?_
    cases hv : vs.any id with
    | true =>
      simp only [if_true]
      repeat (any_goals first | assumption | wp_step)
      exact hv ▸ hq tk'
    | false =>
      simp only [if_false, Bool.false_eq_true]
      repeat (any_goals first | assumption | wp_step)
      exact hv ▸ hq tk') (Shared.TypeIs.not_mainsLoader hs.1)
end
end HT
namespace L2
open PySem PySem.Spec PyProof.Rows
def isSeq : PyData → Bool
  | .list _ => true
  | .tuple _ => true
  | _ => false
def noDict : PyData → Bool
  | .dict _ => false
  | _ => true
theorem ty_ty (T : String) (h : T = "tuple" ∨ T = "list") : typeOf (.type T) = pure (.type "type") := by rcases h with rfl | rfl <;> first | rfl | kernel_rfl
theorem sub_no {a b : String} (h : (a, b) ∈ [("int", "tuple"), ("int", "list"), ("bool", "tuple"), ("bool", "list"), ("str", "tuple"), ("str", "list"), ("NoneType", "tuple"), ("NoneType", "list"), ("list", "tuple"), ("tuple", "list")]) : isSubtype (.type a) (.type b) = pure false := by
  simp only [List.mem_cons, List.not_mem_nil, or_false, Prod.mk.injEq] at h
  rcases h with ⟨rfl, rfl⟩ | ⟨rfl, rfl⟩ | ⟨rfl, rfl⟩ | ⟨rfl, rfl⟩ | ⟨rfl, rfl⟩ | ⟨rfl, rfl⟩ | ⟨rfl, rfl⟩ | ⟨rfl, rfl⟩ | ⟨rfl, rfl⟩ | ⟨rfl, rfl⟩ <;> (rw [isSubtype_type]; kernel_rfl)
theorem sub_yes {a : String} (h : a = "tuple" ∨ a = "list") : isSubtype (.type a) (.type a) = pure true := by rcases h with rfl | rfl <;> (rw [isSubtype_type]; kernel_rfl)
section
variable {X : Cx}
theorem call_isinstTL : CallR X (.builtin "isinstance") (fun xs H Q => ∃ (N : Addr → Prop) (x : V) (d : PyData) (p : Addr), xs = [x, .ref p] ∧ H p = some (.tup [.ty "tuple", .ty "list"]) ∧ Tr N H x d ∧ noDict d = true ∧ Q (.bl (isSeq d)) H) := by
  intro pins s σ H xs us Q I r h
  obtain ⟨N, x, d, p, rfl, hp, t, nd, q⟩ := h
  obtain ⟨u, v, rfl, rx, rv⟩ := vals2 r
  cases (show v = Value.ref p from rv)
  obtain ⟨its, rt, pt, _⟩ := I.tuple (SqT.of hp)
  have ei : its = [.type "tuple", .type "list"] := by
    cases rt with
    | cons r1 rr =>
      cases rr with
      | cons r2 rn =>
        cases rn
        cases (show _ = Value.type "tuple" from r1)
        cases (show _ = Value.type "list" from r2)
        rfl
  subst ei
  obtain ⟨⟨c1, d1, x1, sl1⟩, ho, hc, n, hd⟩ := id pt
  simp only at hc hd
  subst hc hd
  have fin : ∀ (Tx : String) (vs : List Bool), AnswersAll (fun s => s.TypeIs u Tx) u [.type "tuple", .type "list"] vs → s.TypeIs u Tx → vs.any id = isSeq d → wpAny (model X.prog X.w) X.A (call (.builtin "isinstance") [u, .ref p]) (EP X pins σ Q) X.xe s := fun Tx vs ha hx e =>
    call_isinstance (HT.isi_tup (cs := [.type "tuple", .type "list"]) (dd := d1) (n := n) (sl := sl1) ha) ⟨hx, ho, fun tk => ⟨.bl (isSeq d), H, I.tok tk, (by rw [e]; rfl), q⟩⟩
  have y1 := ty_ty "tuple" (.inl rfl)
  have y2 := ty_ty "list" (.inr rfl)
  cases t with
  | non =>
    cases (show u = Value.none from rx)
    exact fin "NoneType" [false, false] (.cons (Answers.of_false_none (by decide) y1 (sub_no (by decide))) (.cons (Answers.of_false_none (by decide) y2 (sub_no (by decide))) .nil)) rfl rfl
  | bl b =>
    cases (show u = Value.bool b from rx)
    exact fin "bool" [false, false] (.cons (Answers.of_false_bool (by decide) y1 (sub_no (by decide))) (.cons (Answers.of_false_bool (by decide) y2 (sub_no (by decide))) .nil)) rfl rfl
  | int i =>
    obtain ⟨t, rfl⟩ := rx
    exact fin "int" [false, false] (.cons (Answers.of_false_int (by decide) y1 (sub_no (by decide))) (.cons (Answers.of_false_int (by decide) y2 (sub_no (by decide))) .nil)) rfl rfl
  | str z =>
    obtain ⟨t, rfl⟩ := rx
    exact fin "str" [false, false] (.cons (Answers.of_false_str (by decide) y1 (sub_no (by decide))) (.cons (Answers.of_false_str (by decide) y2 (sub_no (by decide))) .nil)) rfl rfl
  | lst n1 h1 t1 =>
    cases rx
    obtain ⟨its, _, pl, _⟩ := I.list (SqL.of h1)
    exact fin "list" [false, true] (.cons (Answers.of_false_list (by decide) y1 (sub_no (by decide))) (.cons (Answers.of_true y2 (sub_yes (.inr rfl))) .nil)) pl.isList.typeIs rfl
  | tup n1 h1 t1 =>
    cases rx
    obtain ⟨its, _, pl, _⟩ := I.tuple (SqT.of h1)
    exact fin "tuple" [true, false] (.cons (Answers.of_true y1 (sub_yes (.inl rfl))) (.cons (Answers.of_false_tuple (by decide) y2 (sub_no (by decide))) .nil)) pl.typeIs rfl
  | dct _ _ => cases nd
end
end L2
end
section
set_option Elab.async false
set_option maxRecDepth 10000
set_option linter.all false
namespace L2
open PySem PySem.Spec PyProof.Rows
end L2
namespace Bc
open PySem PySem.Spec PyProof.Rows L2

structure Good (n : Nat) (ds : List PyData) : Prop where
  n1 : 1 ≤ n
  n3 : n ≤ 3
  le : ds.length ≤ mostOf (.int n)
  all : ds.all (boxD n) = true
theorem Good.most {n : Nat} {ds : List PyData} (g : Good n ds) : ds.length ≤ 20 := by
  have hw : n = 1 ∨ n = 2 ∨ n = 3 := by have := g.n1; have := g.n3; omega
  have := g.le
  rcases hw with rfl | rfl | rfl
  · exact this
  · exact Nat.le_trans this (by decide)
  · exact Nat.le_trans this (by decide)
theorem Good.heap {n : Nat} {ds : List PyData} (g : Good n ds) : isHeap (.tuple [.int n, .list ds]) = true := by
  have n1 := g.n1
  have n3 := g.n3
  have e1 : isWays (.int n) = true := decide_eq_true (by omega)
  have e3 : ds.all (isBox (.int n)) = true := all_imp g.all fun d z => by
    obtain ⟨es, rfl, hel, hb⟩ := boxD_is z
    have e0 : isBox (.int n) (.tuple es) = (decide ((n : Int) = 1 ∨ (n : Int) = 2 ∨ (n : Int) = 3) && decide ((n : Int) = (es.length : Int)) && es.all isStretch) := rfl
    rw [e0, decide_eq_true (by omega), decide_eq_true (by omega), all_imp hb fun d z => (bx_all z).2.2.2.2]
    rfl
  show (isWays (.int n) && decide (ds.length ≤ mostOf (.int n)) && ds.all (isBox (.int n))) = true
  rw [e1, e3, decide_eq_true g.le]
  rfl
end Bc
end
section
set_option Elab.async false
set_option maxRecDepth 10000
set_option linter.all false
namespace L2
open PySem PySem.Spec PyProof.Rows
section
variable {X : Cx} {K : PySem.W.Frag}
end
end L2
namespace Bc
open PySem PySem.Spec PyProof.Rows L2
def mx (i j : Int) : Int := if j > i then j else i
def mn (i j : Int) : Int := if j < i then j else i
end Bc
end
section
set_option Elab.async false
set_option maxRecDepth 10000
set_option linter.all false
namespace VS
open PySem PySem.Spec L2


inductive D where
  | non | bl (b : Bool) | int (i : Int) | str (x : Str) | ty (n : String)
  | tup (ds : List D) | lst (m : Bool) (ds : List D) | ref (i : Nat) | scr (ns : List Int) | emp

abbrev Mu := List (Option Addr)
def Live (μ : Mu) (a : Addr) : Prop := some a ∈ μ

structure Fr where
  K : PySem.W.Frag
  H0 : Hp
  N : Addr → Prop
  m0 : List Addr
def Fr.Ok (Γ : Fr) (m : Bool) (a : Addr) : Prop := (m = true → Γ.H0 a = none) ∧ (Γ.N a ∨ Γ.H0 a = none)

mutual
inductive VR (Γ : Fr) (μ : Mu) (H : Hp) : V → D → Prop
  | non : VR Γ μ H .non .non
  | bl (b : Bool) : VR Γ μ H (.bl b) (.bl b)
  | int (i : Int) : VR Γ μ H (.int i) (.int i)
  | str (x : Str) : VR Γ μ H (.str x) (.str x)
  | ty (n : String) : VR Γ μ H (.ty n) (.ty n)
  | tup {a : Addr} {xs : List V} {ds : List D} : H a = some (.tup xs) → VRs Γ μ H xs ds → VR Γ μ H (.ref a) (.tup ds)
  | lst {m : Bool} {a : Addr} {xs : List V} {ds : List D} : Γ.Ok m a → ¬ Live μ a → H a = some (.lst xs) → VRs Γ μ H xs ds → VR Γ μ H (.ref a) (.lst m ds)
  | ref {i : Nat} {v : V} : i < μ.length → (∀ a, μ[i]? = some (some a) → v = .ref a) → VR Γ μ H v (.ref i)
  | scrK {a : Addr} {ns : List Int} : (∀ H', SqL Γ.K H' a (ns.map V.int)) → VR Γ μ H (.ref a) (.scr ns)
  | scrR {a : Addr} {ns : List Int} {o : Obj} : ¬ Live μ a → H a = some (.frz o (.lst (ns.map V.int))) → VR Γ μ H (.ref a) (.scr ns)
  | emp {a : Addr} : ¬ Live μ a → H a = some (.dK []) → VR Γ μ H (.ref a) .emp
inductive VRs (Γ : Fr) (μ : Mu) (H : Hp) : List V → List D → Prop
  | nil : VRs Γ μ H [] []
  | cons {x : V} {d : D} {xs : List V} {ds : List D} : VR Γ μ H x d → VRs Γ μ H xs ds → VRs Γ μ H (x :: xs) (d :: ds)
end

structure Ext (μ : Mu) (H : Hp) (μ' : Mu) (H' : Hp) : Prop where
  keep : ∀ a o, H a = some o → ¬ Live μ a → H' a = some o ∧ ¬ Live μ' a
  tups : ∀ a xs, H a = some (.tup xs) → H' a = some (.tup xs)
  none : ∀ a, H' a = none → H a = none
  ids : ∀ (i : Nat) (a : Addr), i < μ.length → μ'[i]? = some (some a) → μ[i]? = some (some a)
  len : μ.length ≤ μ'.length
theorem Ext.refl (μ : Mu) (H : Hp) : Ext μ H μ H := ⟨fun _ _ h n => ⟨h, n⟩, fun _ _ h => h, fun _ h => h, fun _ _ _ h => h, Nat.le_refl _⟩
theorem Ext.trans {μ μ1 μ2 : Mu} {H H1 H2 : Hp} (a : Ext μ H μ1 H1) (b : Ext μ1 H1 μ2 H2) : Ext μ H μ2 H2 :=
  ⟨fun c o h n => let ⟨x, y⟩ := a.keep c o h n; b.keep c o x y, fun c xs h => b.tups c xs (a.tups c xs h), fun c h => a.none c (b.none c h), fun i c hi h => a.ids i c hi (b.ids i c (Nat.lt_of_lt_of_le hi a.len) h), Nat.le_trans a.len b.len⟩

section
variable {Γ : Fr} {μ μ' : Mu} {H H' : Hp}
mutual
theorem VR.ext (e : Ext μ H μ' H') : ∀ {v : V} {d : D}, VR Γ μ H v d → VR Γ μ' H' v d
  | _, _, .non => .non
  | _, _, .bl b => .bl b
  | _, _, .int i => .int i
  | _, _, .str x => .str x
  | _, _, .ty n => .ty n
  | _, _, .tup h t => .tup (e.tups _ _ h) (VRs.ext e t)
  | _, _, .lst o n h t => .lst o (e.keep _ _ h n).2 (e.keep _ _ h n).1 (VRs.ext e t)
  | _, _, .ref hi f => .ref (Nat.lt_of_lt_of_le hi e.len) fun a q => f a (e.ids _ _ hi q)
  | _, _, .scrK h => .scrK h
  | _, _, .scrR n h => .scrR (e.keep _ _ h n).2 (e.keep _ _ h n).1
  | _, _, .emp n h => .emp (e.keep _ _ h n).2 (e.keep _ _ h n).1
theorem VRs.ext (e : Ext μ H μ' H') : ∀ {vs : List V} {ds : List D}, VRs Γ μ H vs ds → VRs Γ μ' H' vs ds
  | _, _, .nil => .nil
  | _, _, .cons r t => .cons (VR.ext e r) (VRs.ext e t)
end
theorem VRs.length : ∀ {xs : List V} {ds : List D}, VRs Γ μ H xs ds → xs.length = ds.length
  | _, _, .nil => rfl
  | _, _, .cons _ t => by rw [List.length_cons, List.length_cons, VRs.length t]
theorem VRs.append : ∀ {xs ys : List V} {ds es : List D}, VRs Γ μ H xs ds → VRs Γ μ H ys es → VRs Γ μ H (xs ++ ys) (ds ++ es)
  | _, _, _, _, .nil, t => t
  | _, _, _, _, .cons r s, t => .cons r (VRs.append s t)
theorem VRs.take : ∀ {xs : List V} {ds : List D} (n : Nat), VRs Γ μ H xs ds → VRs Γ μ H (xs.take n) (ds.take n)
  | _, _, 0, _ => .nil
  | _, _, _ + 1, .nil => .nil
  | _, _, n + 1, .cons r t => .cons r (VRs.take n t)
theorem VRs.drop : ∀ {xs : List V} {ds : List D} (n : Nat), VRs Γ μ H xs ds → VRs Γ μ H (xs.drop n) (ds.drop n)
  | _, _, 0, r => r
  | _, _, _ + 1, .nil => .nil
  | _, _, n + 1, .cons _ t => VRs.drop n t
theorem VRs.get : ∀ {xs : List V} {ds : List D} {i : Nat} {d : D}, VRs Γ μ H xs ds → ds[i]? = some d → ∃ x, xs[i]? = some x ∧ VR Γ μ H x d
  | _, _, _, _, .nil, h => by simp at h
  | _, _, 0, _, .cons r _, h => by simp at h; subst h; exact ⟨_, rfl, r⟩
  | _, _, i + 1, d, .cons _ t, h => by
    obtain ⟨x, h1, h2⟩ := VRs.get (i := i) (d := d) t (by simpa using h)
    exact ⟨x, by simpa using h1, h2⟩
theorem VRs.set {x : V} {d : D} (r : VR Γ μ H x d) : ∀ {xs : List V} {ds : List D} (i : Nat), VRs Γ μ H xs ds → VRs Γ μ H (xs.set i x) (ds.set i d)
  | _, _, _, .nil => .nil
  | _, _, 0, .cons _ t => .cons r t
  | _, _, i + 1, .cons q t => .cons q (VRs.set r i t)
theorem VRs.eraseIdx : ∀ {xs : List V} {ds : List D} (i : Nat), VRs Γ μ H xs ds → VRs Γ μ H (xs.eraseIdx i) (ds.eraseIdx i)
  | _, _, _, .nil => .nil
  | _, _, 0, .cons _ t => t
  | _, _, i + 1, .cons q t => .cons q (VRs.eraseIdx i t)
theorem VRs.reverse : ∀ {xs : List V} {ds : List D}, VRs Γ μ H xs ds → VRs Γ μ H xs.reverse ds.reverse
  | _, _, .nil => .nil
  | _, _, .cons r t => by rw [List.reverse_cons, List.reverse_cons]; exact (VRs.reverse t).append (.cons r .nil)
theorem VRs.rep {xs : List V} {ds : List D} (h : VRs Γ μ H xs ds) : ∀ n : Nat, VRs Γ μ H (List.replicate n xs).flatten (List.replicate n ds).flatten
  | 0 => .nil
  | n + 1 => by rw [List.replicate_succ, List.replicate_succ, List.flatten_cons, List.flatten_cons]; exact h.append (VRs.rep h n)
theorem VRs.ints : ∀ (ns : List Int), VRs Γ μ H (ns.map V.int) (ns.map D.int)
  | [] => .nil
  | n :: r => .cons (.int n) (VRs.ints r)
theorem VRs.intsI : ∀ {xs : List V} {ns : List Int}, VRs Γ μ H xs (ns.map D.int) → xs = ns.map V.int
  | _, [], .nil => rfl
  | _, n :: r, .cons q t => by cases q; rw [List.map_cons, VRs.intsI t]
end

abbrev Env := List (Option D)
abbrev Store := List (Option (List D))
structure Rep (Γ : Fr) (μ : Mu) (σ : St) (H : Hp) (env : Env) (S : Store) : Prop where
  vals : ∀ (i : Nat) (d : D), env[i]? = some (some d) → ∃ v, σ[i]? = some (some v) ∧ VR Γ μ H v d
  len : σ.length = env.length
  sto : ∀ (i : Nat) (ds : List D), S[i]? = some (some ds) → ∃ a xs, μ[i]? = some (some a) ∧ H a = some (.lst xs) ∧ VRs Γ μ H xs ds
  liv : ∀ (i : Nat) (a : Addr), μ[i]? = some (some a) → ∃ ds, S[i]? = some (some ds)
  inj : ∀ (i j : Nat) (a : Addr), μ[i]? = some (some a) → μ[j]? = some (some a) → i = j
  slen : S.length = μ.length
  ent : Ext (Γ.m0.map some) Γ.H0 μ H
  new : ∀ (i : Nat) (a : Addr), Γ.m0.length ≤ i → μ[i]? = some (some a) → Γ.H0 a = none

section
variable {Γ : Fr} {μ μ' : Mu} {σ σ2 : St} {H H' : Hp} {env env2 : Env} {S S' : Store}
theorem Rep.live (R : Rep Γ μ σ H env S) {a : Addr} (h : Live μ a) : ∃ xs, H a = some (.lst xs) := by
  obtain ⟨i, hi⟩ := List.mem_iff_getElem?.mp h
  obtain ⟨ds, hs⟩ := R.liv i a hi
  obtain ⟨b, xs, h1, h2, _⟩ := R.sto i ds hs
  rw [hi] at h1; cases h1
  exact ⟨xs, h2⟩
theorem Rep.dead (R : Rep Γ μ σ H env S) {p : Addr} (h : H p = none) : ¬ Live μ p := fun z => by
  obtain ⟨xs, e⟩ := R.live z
  rw [h] at e; cases e
theorem Rep.fresh (R : Rep Γ μ σ H env S) {p : Addr} (h : H p = none) : Γ.H0 p = none := R.ent.none p h
theorem Rep.ok (R : Rep Γ μ σ H env S) {p : Addr} (h : H p = none) (m : Bool) : Γ.Ok m p := ⟨fun _ => R.fresh h, .inr (R.fresh h)⟩
theorem Rep.grow (R : Rep Γ μ σ H env S) (e : Same H H') : Rep Γ μ σ H' env S ∧ Ext μ H μ H' := by
  have x : Ext μ H μ H' := ⟨fun a o h n => ⟨e a o h, n⟩, fun a xs h => e a _ h, fun a h => e.free h, fun _ _ _ h => h, Nat.le_refl _⟩
  refine ⟨⟨fun i d h => ?_, R.len, fun i ds h => ?_, R.liv, R.inj, R.slen, R.ent.trans x, R.new⟩, x⟩
  · obtain ⟨v, h1, h2⟩ := R.vals i d h
    exact ⟨v, h1, h2.ext x⟩
  · obtain ⟨a, xs, h1, h2, h3⟩ := R.sto i ds h
    exact ⟨a, xs, h1, e _ _ h2, h3.ext x⟩
theorem Rep.back (R : Rep Γ μ σ H env S) (x : Ext μ H μ' H') (R2 : Rep Γ μ' σ2 H' env2 S') : Rep Γ μ' σ H' env S' :=
  ⟨fun i d h => let ⟨v, h1, h2⟩ := R.vals i d h; ⟨v, h1, h2.ext x⟩, R.len, R2.sto, R2.liv, R2.inj, R2.slen, R2.ent, R2.new⟩
theorem Rep.setv (R : Rep Γ μ σ H env S) (i : Nat) {v : V} {d : D} (r : VR Γ μ H v d) : Rep Γ μ (σ.set i (some v)) H (env.set i (some d)) S := by
  refine ⟨fun j e h => ?_, by rw [List.length_set, List.length_set]; exact R.len, R.sto, R.liv, R.inj, R.slen, R.ent, R.new⟩
  by_cases hj : i = j
  · subst hj
    have hl : i < env.length := by
      have := (List.getElem?_eq_some_iff.mp h).1
      rw [List.length_set] at this; exact this
    rw [List.getElem?_set_self hl] at h
    cases h
    exact ⟨v, List.getElem?_set_self (by rw [R.len]; exact hl), r⟩
  · rw [List.getElem?_set_ne hj] at h ⊢
    exact R.vals j e h
theorem Rep.laid (R : Rep Γ μ σ H env S) {p : Addr} {xs : List V} {ds : List D} (hp : H p = none) (r : VRs Γ μ H xs ds) :
    Rep Γ (μ ++ [some p]) σ (upd H p (.lst xs)) env (S ++ [some ds]) ∧ Ext μ H (μ ++ [some p]) (upd H p (.lst xs)) := by
  have ne : ∀ a o, H a = some o → a ≠ p := fun a o h z => by rw [z, hp] at h; cases h
  have x : Ext μ H (μ ++ [some p]) (upd H p (.lst xs)) := by
    refine ⟨fun a o h n => ⟨by rw [upd_ne (ne a o h)]; exact h, fun z => ?_⟩, fun a ys h => by rw [upd_ne (ne a _ h)]; exact h, fun a h => ?_, fun i a hi h => ?_, by rw [List.length_append]; omega⟩
    · rcases List.mem_append.mp z with z | z
      · exact n z
      · have z' : a = p := by simpa using z
        exact ne a o h z'
    · by_cases ha : a = p
      · rw [ha, upd_same] at h; cases h
      · rw [upd_ne ha] at h; exact h
    · rw [List.getElem?_append_left hi] at h; exact h
  have idx : ∀ i a, (μ ++ [some p])[i]? = some (some a) → (i < μ.length ∧ μ[i]? = some (some a)) ∨ (i = μ.length ∧ a = p) := fun i a h => by
    by_cases hi : i < μ.length
    · rw [List.getElem?_append_left hi] at h; exact .inl ⟨hi, h⟩
    · rw [List.getElem?_append_right (by omega)] at h
      have hl := (List.getElem?_eq_some_iff.mp h).1
      have hi' : i = μ.length := by simp at hl; omega
      subst hi'
      simp at h
      exact .inr ⟨rfl, h.symm⟩
  have no : ∀ a, μ[a]? = some (some p) → False := fun i h => R.dead hp (List.mem_of_getElem? h)
  refine ⟨⟨fun i d h => ?_, R.len, fun i es h => ?_, fun i a h => ?_, fun i j a h1 h2 => ?_, by rw [List.length_append, List.length_append, R.slen]; rfl, R.ent.trans x, fun i a hi h => ?_⟩, x⟩
  · obtain ⟨v, h1, h2⟩ := R.vals i d h
    exact ⟨v, h1, h2.ext x⟩
  · by_cases hi : i < S.length
    · rw [List.getElem?_append_left hi] at h
      obtain ⟨a, ys, h1, h2, h3⟩ := R.sto i es h
      exact ⟨a, ys, by rw [List.getElem?_append_left (by rw [← R.slen]; exact hi)]; exact h1, by rw [upd_ne (ne a _ h2)]; exact h2, h3.ext x⟩
    · rw [List.getElem?_append_right (by omega)] at h
      have hl := (List.getElem?_eq_some_iff.mp h).1
      have hi' : i = S.length := by simp at hl; omega
      subst hi'
      simp at h
      subst h
      exact ⟨p, xs, by rw [R.slen]; simp, upd_same, r.ext x⟩
  · rcases idx i a h with ⟨hi, h⟩ | ⟨rfl, rfl⟩
    · obtain ⟨ds', q⟩ := R.liv i a h
      exact ⟨ds', by rw [List.getElem?_append_left (by rw [R.slen]; exact hi)]; exact q⟩
    · exact ⟨ds, by rw [← R.slen]; simp⟩
  · rcases idx i a h1 with ⟨_, g1⟩ | ⟨e1, e2⟩
    · rcases idx j a h2 with ⟨_, g2⟩ | ⟨e3, e4⟩
      · exact R.inj i j a g1 g2
      · exact (no i (e4 ▸ g1)).elim
    · rcases idx j a h2 with ⟨_, g2⟩ | ⟨e3, _⟩
      · exact (no j (e2 ▸ g2)).elim
      · rw [e1, e3]
  · rcases idx i a h with ⟨_, h⟩ | ⟨rfl, rfl⟩
    · exact R.new i a hi h
    · exact R.fresh hp
theorem Rep.put (R : Rep Γ μ σ H env S) {i : Nat} {a : Addr} {xs : List V} {ds : List D} (hi : μ[i]? = some (some a)) (r : VRs Γ μ H xs ds) :
    Rep Γ μ σ (upd H a (.lst xs)) env (S.set i (some ds)) ∧ Ext μ H μ (upd H a (.lst xs)) := by
  have hl : Live μ a := List.mem_of_getElem? hi
  obtain ⟨ys, hy⟩ := R.live hl
  have x : Ext μ H μ (upd H a (.lst xs)) := by
    refine ⟨fun b o h n => ⟨?_, n⟩, fun b zs h => ?_, fun b h => ?_, fun _ _ _ h => h, Nat.le_refl _⟩
    · rw [upd_ne (fun z => n (by rw [z]; exact hl))]; exact h
    · rw [upd_ne (fun z => by rw [z, hy] at h; cases h)]; exact h
    · by_cases hb : b = a
      · rw [hb, upd_same] at h; cases h
      · rw [upd_ne hb] at h; exact h
  have hiS : i < S.length := by rw [R.slen]; exact (List.getElem?_eq_some_iff.mp hi).1
  refine ⟨⟨fun j d h => ?_, R.len, fun j es h => ?_, fun j b h => ?_, R.inj, by rw [List.length_set]; exact R.slen, R.ent.trans x, R.new⟩, x⟩
  · obtain ⟨v, h1, h2⟩ := R.vals j d h
    exact ⟨v, h1, h2.ext x⟩
  · by_cases hj : i = j
    · subst hj
      rw [List.getElem?_set_self hiS] at h
      cases h
      exact ⟨a, xs, hi, upd_same, r.ext x⟩
    · rw [List.getElem?_set_ne hj] at h
      obtain ⟨b, zs, h1, h2, h3⟩ := R.sto j es h
      refine ⟨b, zs, h1, ?_, h3.ext x⟩
      rw [upd_ne (fun z => hj (R.inj i j a hi (by rw [← z]; exact h1)))]
      exact h2
  · by_cases hj : i = j
    · subst hj; exact ⟨ds, List.getElem?_set_self hiS⟩
    · rw [List.getElem?_set_ne hj]; exact R.liv j b h
end
end VS
end
section
set_option Elab.async false
set_option maxRecDepth 10000
set_option linter.all false
namespace VS
open PySem PySem.Spec L2

abbrev ESem := Env → Store → Option (D × Store)
abbrev ASem := Env → Store → Option (List D × Store)
abbrev TSem := Env → Store → Option (Bool × Store)
abbrev OSem := Env → Store → Option (Option Int × Store)
inductive Fl where | nx | brk | cnt | ret (d : D)
abbrev SSem := Env → Store → Option (Fl × Env × Store)
abbrev ISem := Env → Store → Option ((List D × List (Nat × List D)) × Store)
abbrev GSem := D → Env → Option Env

def eVar (i : Nat) : ESem := fun env S => (env[i]?.join).map fun d => (d, S)
def eC (d : D) : ESem := fun _ S => some (d, S)
def eOp (g : Store → D → D → Option D) (a b : ESem) : ESem := fun env S => (a env S).bind fun p => (b env p.2).bind fun q => (g q.2 p.1 q.1).map fun d => (d, q.2)
def eUn (g : Store → D → Option D) (a : ESem) : ESem := fun env S => (a env S).bind fun p => (g p.2 p.1).map fun d => (d, p.2)
def aNil : ASem := fun _ S => some ([], S)
def aCons (a : ESem) (r : ASem) : ASem := fun env S => (a env S).bind fun p => (r env p.2).bind fun q => some (p.1 :: q.1, q.2)
def eCB (g : Store → List D → Option D) (a : ASem) : ESem := fun env S => (a env S).bind fun p => (g p.2 p.1).map fun d => (d, p.2)
def eAnd (a b : ESem) : ESem := fun env S => (a env S).bind fun p => match p.1 with | .bl true => b env p.2 | .bl false => some (.bl false, p.2) | _ => none
def eNot (a : ESem) : ESem := fun env S => (a env S).bind fun p => match p.1 with | .bl c => some (.bl (!c), p.2) | _ => none
def eChain (g g' : Store → D → D → Option D) (a b c : ESem) : ESem := fun env S => (a env S).bind fun p => (b env p.2).bind fun q => (g q.2 p.1 q.1).bind fun z => match z with
  | .bl true => (c env q.2).bind fun r => (g' r.2 q.1 r.1).map fun d => (d, r.2)
  | .bl false => some (.bl false, q.2)
  | _ => none
def tVal (a : ESem) : TSem := fun env S => (a env S).bind fun p => match p.1 with | .bl c => some (c, p.2) | _ => none
def tAnd (a b : TSem) : TSem := fun env S => (a env S).bind fun p => if p.1 = true then b env p.2 else some (false, p.2)
def tOr (a b : TSem) : TSem := fun env S => (a env S).bind fun p => if p.1 = true then some (true, p.2) else b env p.2
def tNot (a : TSem) : TSem := fun env S => (a env S).bind fun p => some (!p.1, p.2)
def oNone : OSem := fun _ S => some (none, S)
def oSome (a : ESem) : OSem := fun env S => (a env S).bind fun p => match p.1 with | .int i => some (some i, p.2) | _ => none
def eSl (g : Store → D → Option Int → Option Int → Option D) (a : ESem) (l h : OSem) : ESem := fun env S => (a env S).bind fun p => (l env p.2).bind fun q => (h env q.2).bind fun r => (g r.2 p.1 q.1 r.1).map fun d => (d, r.2)
def sSeq (a b : SSem) : SSem := fun env S => (a env S).bind fun p => match p.1 with | .nx => b p.2.1 p.2.2 | f => some (f, p.2.1, p.2.2)
def sNil : SSem := fun env S => some (.nx, env, S)
def sNever : SSem := fun _ _ => none
def sSet (i : Nat) (a : ESem) : SSem := fun env S => (a env S).bind fun p => some (.nx, env.set i (some p.1), p.2)
def sAsg (a : ESem) (g : GSem) : SSem := fun env S => (a env S).bind fun p => (g p.1 env).bind fun e => some (.nx, e, p.2)
def sExp (a : ESem) : SSem := fun env S => (a env S).bind fun p => some (.nx, env, p.2)
def sRet (a : ESem) : SSem := fun env S => (a env S).bind fun p => some (.ret p.1, env, p.2)
def sIf (c : TSem) (a b : SSem) : SSem := fun env S => (c env S).bind fun p => if p.1 = true then a env p.2 else b env p.2

inductive Pat where
  | nm (i : Nat) | tp (ps : List Pat)
mutual
def Pat.sem : Pat → D → Env → Option Env
  | .nm i, d, env => some (env.set i (some d))
  | .tp ps, .tup ds, env => semS ps ds env
  | .tp _, _, _ => none
def semS : List Pat → List D → Env → Option Env
  | [], [], env => some env
  | p :: ps, d :: ds, env => (Pat.sem p d env).bind fun e => semS ps ds e
  | _, _, _ => none
end
mutual
def Pat.raw (K : PySem.W.Frag) : Pat → TG
  | .nm i => gName i
  | .tp ps => gTup K ps.length (rawS K ps)
def rawS (K : PySem.W.Frag) : List Pat → TGs
  | [] => gNil
  | p :: ps => gCons (Pat.raw K p) (rawS K ps)
end
mutual
def Pat.low (k : Nat) : Pat → Bool
  | .nm i => decide (i < k)
  | .tp ps => lowS k ps
def lowS (k : Nat) : List Pat → Bool
  | [] => true
  | p :: ps => Pat.low k p && lowS k ps
end
mutual
theorem Pat.mono (K : PySem.W.Frag) : ∀ (p : Pat) (x : V) (σ : St) (H : Hp) (Q Q' : St → Hp → Prop), (∀ σ' H', Q σ' H' → Q' σ' H') → p.raw K x σ H Q → p.raw K x σ H Q'
  | .nm i, x, σ, H, Q, Q', f, h => by rw [Pat.raw] at h ⊢; exact f _ _ h
  | .tp ps, x, σ, H, Q, Q', f, h => by rw [Pat.raw] at h ⊢; obtain ⟨a, xs, e, hs, hl, q⟩ := h; exact ⟨a, xs, e, hs, hl, monoS K ps xs σ H Q Q' f q⟩
theorem monoS (K : PySem.W.Frag) : ∀ (ps : List Pat) (x : List V) (σ : St) (H : Hp) (Q Q' : St → Hp → Prop), (∀ σ' H', Q σ' H' → Q' σ' H') → rawS K ps x σ H Q → rawS K ps x σ H Q'
  | [], x, σ, H, Q, Q', f, h => by rw [rawS] at h ⊢; exact ⟨h.1, f _ _ h.2⟩
  | p :: ps, x, σ, H, Q, Q', f, h => by rw [rawS] at h ⊢; obtain ⟨v, r, e, q⟩ := h; exact ⟨v, r, e, Pat.mono K p v σ H _ _ (fun σ1 H1 z => monoS K ps r σ1 H1 Q Q' f z) q⟩
end
mutual
theorem Pat.isLow (K : PySem.W.Frag) {k : Nat} : ∀ (p : Pat), p.low k = true → Low k (p.raw K)
  | .nm i, h => by rw [Pat.raw]; rw [Pat.low] at h; exact low_name (of_decide_eq_true h)
  | .tp ps, h => by rw [Pat.raw]; rw [Pat.low] at h; exact low_tup (isLowS K ps h)
theorem isLowS (K : PySem.W.Frag) {k : Nat} : ∀ (ps : List Pat), lowS k ps = true → LowS k (rawS K ps)
  | [], _ => by rw [rawS]; exact low_nil
  | p :: ps, h => by
    rw [rawS]
    rw [lowS, Bool.and_eq_true] at h
    exact low_cons (Pat.isLow K p h.1) (isLowS K ps h.2) (Pat.mono K p) (monoS K ps)
end
theorem semS_len : ∀ {ps : List Pat} {ds : List D} {env env' : Env}, semS ps ds env = some env' → ds.length = ps.length
  | [], [], _, _, _ => rfl
  | [], _ :: _, _, _, h => by simp [semS] at h
  | _ :: _, [], _, _, h => by simp [semS] at h
  | p :: ps, d :: ds, env, env', h => by
    rw [semS] at h
    cases e1 : p.sem d env with
    | none => rw [e1] at h; cases h
    | some env1 =>
      rw [e1] at h
      rw [List.length_cons, List.length_cons, semS_len (show semS ps ds env1 = some env' from h)]
mutual
theorem Pat.run {Γ : Fr} {μ : Mu} {H : Hp} {S : Store} (K : PySem.W.Frag) : ∀ (p : Pat) {v : V} {d : D} {σ : St} {env env' : Env} {Q : St → Hp → Prop}, Rep Γ μ σ H env S → VR Γ μ H v d → p.sem d env = some env' → (∀ σ', Rep Γ μ σ' H env' S → Q σ' H) → p.raw K v σ H Q
  | .nm i, v, d, σ, env, env', Q, R, r, e, q => by
    rw [Pat.raw]
    rw [Pat.sem] at e
    cases e
    exact q _ (R.setv i r)
  | .tp ps, v, d, σ, env, env', Q, R, r, e, q => by
    rw [Pat.raw]
    cases r with
    | @tup b xs ds hb rs =>
      rw [Pat.sem] at e
      obtain ⟨hl, w⟩ := runS K ps R rs e q
      exact ⟨b, xs, rfl, SqT.of hb, hl, w⟩
    | _ => simp [Pat.sem] at e
theorem runS {Γ : Fr} {μ : Mu} {H : Hp} {S : Store} (K : PySem.W.Frag) : ∀ (ps : List Pat) {vs : List V} {ds : List D} {σ : St} {env env' : Env} {Q : St → Hp → Prop}, Rep Γ μ σ H env S → VRs Γ μ H vs ds → semS ps ds env = some env' → (∀ σ', Rep Γ μ σ' H env' S → Q σ' H) → vs.length = ps.length ∧ rawS K ps vs σ H Q
  | [], vs, ds, σ, env, env', Q, R, r, e, q => by
    rw [rawS]
    cases r with
    | nil => rw [semS] at e; cases e; exact ⟨rfl, rfl, q σ R⟩
    | cons _ _ => simp [semS] at e
  | p :: ps, vs, ds, σ, env, env', Q, R, r, e, q => by
    rw [rawS]
    cases r with
    | nil => simp [semS] at e
    | @cons y d ys ds' r1 r2 =>
      rw [semS] at e
      cases e1 : p.sem d env with
      | none => rw [e1] at e; cases e
      | some env1 =>
        rw [e1] at e
        have e' : semS ps ds' env1 = some env' := e
        have hl : ys.length = ps.length := by rw [r2.length]; exact semS_len e'
        exact ⟨by rw [List.length_cons, List.length_cons, hl], y, ys, rfl, Pat.run K p R r1 e1 fun σ1 R1 => (runS K ps R1 r2 e' q).2⟩
end
def calm (w : List (Nat × List D)) (S : Store) : Prop := ∀ p ∈ w, S[p.1]? = some (some p.2)
open Classical in
noncomputable def loop (w : List (Nat × List D)) (g : GSem) (b : SSem) : List D → SSem
  | [], env, S => if calm w S then some (.nx, env, S) else none
  | d :: r, env, S => if calm w S then (g d env).bind fun e => (b e S).bind fun p => match p.1 with
      | .nx => loop w g b r p.2.1 p.2.2
      | .cnt => loop w g b r p.2.1 p.2.2
      | .brk => some (.nx, p.2.1, p.2.2)
      | .ret d => some (.ret d, p.2.1, p.2.2)
    else none
noncomputable def sFor (it : ISem) (g : GSem) (b : SSem) : SSem := fun env S => (it env S).bind fun p => loop p.1.2 g b p.1.1 env p.2
def capE (k : Nat) (caps : List Nat) (env : Env) : Env := List.replicate k none ++ caps.map fun j => (env[j]?).join
open Classical in
noncomputable def cloop (w : List (Nat × List D)) (e0 : Env) (g : GSem) (t : TSem) (e : ESem) : List D → List D → Store → Option (List D × Store)
  | [], ys, S => if calm w S ∧ ys.length ≤ 1000000 then some (ys, S) else none
  | d :: r, ys, S => if calm w S ∧ ys.length ≤ 1000000 then (g d e0).bind fun e1 => (t e1 S).bind fun p =>
      if p.1 = true then (e e1 p.2).bind fun q => cloop w e0 g t e r (ys ++ [q.1]) q.2 else cloop w e0 g t e r ys p.2
    else none
noncomputable def aComp (k : Nat) (caps : List Nat) (it : ISem) (g : GSem) (t : TSem) (e : ESem) : ASem := fun env S => (it env S).bind fun p => cloop p.1.2 (capE k caps env) g t e p.1.1 [] p.2
def tYes : TSem := fun _ S => some (true, S)
def eFrz (a : ASem) : ESem := fun env S => (a env S).bind fun p => some (.lst true p.1, p.2)
def eSto (a : ASem) : ESem := fun env S => (a env S).bind fun p => some (.ref p.2.length, p.2 ++ [some p.1])
def eTup (a : ASem) : ESem := fun env S => (a env S).bind fun p => some (.tup p.1, p.2)

def wpE (K : PySem.W.Frag) (f : ESem) : TE := fun σ H Q => ∃ Γ μ env S d S', Γ.K = K ∧ Rep Γ μ σ H env S ∧ f env S = some (d, S') ∧ ∀ v μ' H', Ext μ H μ' H' → Rep Γ μ' σ H' env S' → VR Γ μ' H' v d → Q v H'
def wpA (K : PySem.W.Frag) (f : ASem) : TA := fun σ H Q => ∃ Γ μ env S d S', Γ.K = K ∧ Rep Γ μ σ H env S ∧ f env S = some (d, S') ∧ ∀ v μ' H', Ext μ H μ' H' → Rep Γ μ' σ H' env S' → VRs Γ μ' H' v d → Q v H'
def wpT (K : PySem.W.Frag) (f : TSem) : TT := fun σ H Q => ∃ Γ μ env S b S', Γ.K = K ∧ Rep Γ μ σ H env S ∧ f env S = some (b, S') ∧ ∀ μ' H', Ext μ H μ' H' → Rep Γ μ' σ H' env S' → Q b H'
def wpO (K : PySem.W.Frag) (f : OSem) : TO := fun σ H Q => ∃ Γ μ env S b S', Γ.K = K ∧ Rep Γ μ σ H env S ∧ f env S = some (b, S') ∧ ∀ μ' H', Ext μ H μ' H' → Rep Γ μ' σ H' env S' → Q b H'
def FlQ (Γ : Fr) (μ : Mu) (E : Ends) (σ : St) (H : Hp) : Fl → Prop
  | .nx => E.nx σ H
  | .brk => E.bk σ H
  | .cnt => E.ct σ H
  | .ret d => ∀ v, VR Γ μ H v d → E.rt v H
def wpS (K : PySem.W.Frag) (f : SSem) : TS := fun E σ H => ∃ Γ μ env S fl env' S', Γ.K = K ∧ Rep Γ μ σ H env S ∧ f env S = some (fl, env', S') ∧ ∀ μ' σ' H', Ext μ H μ' H' → Rep Γ μ' σ' H' env' S' → FlQ Γ μ' E σ' H' fl

structure ItOk (Γ : Fr) (μ : Mu) (H : Hp) (J : It) (ds : List D) (w : List (Nat × List D)) : Prop where
  step : ∀ (i : Nat) (d : D) (μ' : Mu) (H' : Hp) (σ' : St) (env' : Env) (S' : Store), ds[i]? = some d → Ext μ H μ' H' → Rep Γ μ' σ' H' env' S' → calm w S' → J.go i H' ∧ ∀ x H'', J.yld i H' x H'' → Same H' H'' ∧ VR Γ μ' H'' x d
  stop : ∀ (μ' : Mu) (H' : Hp) (σ' : St) (env' : Env) (S' : Store), Ext μ H μ' H' → Rep Γ μ' σ' H' env' S' → calm w S' → J.stop ds.length H'
def wpI (K : PySem.W.Frag) (f : ISem) : TI := fun σ H R => ∃ Γ μ env S ds w S', Γ.K = K ∧ Rep Γ μ σ H env S ∧ f env S = some ((ds, w), S') ∧ ∀ J μ' H', Ext μ H μ' H' → Rep Γ μ' σ H' env S' → ItOk Γ μ' H' J ds w → R J H'

structure JE (X : Cx) (e : Expr) (f : ESem) : Prop where
  pe : PE X e (wpE X.K f)
structure JA (X : Cx) (es : List Expr) (f : ASem) : Prop where
  pa : PA X es (wpA X.K f)
structure JT (X : Cx) (e : Expr) (f : TSem) : Prop where
  pt : PT X e (wpT X.K f)
structure JW (X : Cx) (e : Expr) (f : TSem) : Prop where
  pw : PW X e (wpT X.K f)
structure JO (X : Cx) (e : Option Expr) (f : OSem) : Prop where
  po : PO X e (wpO X.K f)
structure JS (X : Cx) (st : Stmt) (f : SSem) : Prop where
  ps : PS X st (wpS X.K f)
structure JSs (X : Cx) (sts : List Stmt) (f : SSem) : Prop where
  ps : PSs X sts (wpS X.K f)
structure JI (X : Cx) (tg e : Expr) (f : ISem) : Prop where
  pi : PI X tg e (wpI X.K f)
structure JG (X : Cx) (tg : Expr) (p : Pat) : Prop where
  pg : PG X tg (p.raw X.K)
structure JGs (X : Cx) (tgs : List Expr) (ps : List Pat) : Prop where
  pg : PGs X tgs (rawS X.K ps)
structure JTs (X : Cx) (es : List Expr) (f : TSem) : Prop where
  pt : PTs X es (wpT X.K f)

section
variable {X : Cx}
theorem PE.imp {e : Expr} {t t' : TE} (h : PE X e t) (k : ∀ σ H Q, t' σ H Q → t σ H Q) : PE X e t' := fun pins s σ H Q I q => h pins s σ H Q I (k σ H Q q)
theorem PT.imp {e : Expr} {t t' : TT} (h : PT X e t) (k : ∀ σ H Q, t' σ H Q → t σ H Q) : PT X e t' := fun pins s σ H Q I q => h pins s σ H Q I (k σ H Q q)
theorem PW.imp {e : Expr} {t t' : TT} (h : PW X e t) (k : ∀ σ H Q, t' σ H Q → t σ H Q) : PW X e t' := fun w pins s σ H Q I q => h w pins s σ H Q I (k σ H Q q)
theorem PTs.imp {e : List Expr} {t t' : TT} (h : PTs X e t) (k : ∀ σ H Q, t' σ H Q → t σ H Q) : PTs X e t' := fun pins s σ H Q I q => h pins s σ H Q I (k σ H Q q)
theorem PA.imp {e : List Expr} {t t' : TA} (h : PA X e t) (k : ∀ σ H Q, t' σ H Q → t σ H Q) : PA X e t' := fun p pins s σ H Q I q => h p pins s σ H Q I (k σ H Q q)
theorem PO.imp {e : Option Expr} {t t' : TO} (h : PO X e t) (k : ∀ σ H Q, t' σ H Q → t σ H Q) : PO X e t' := fun pins s σ H Q I q => h pins s σ H Q I (k σ H Q q)
theorem PS.imp {e : Stmt} {t t' : TS} (h : PS X e t) (k : ∀ E σ H, t' E σ H → t E σ H) : PS X e t' := fun pins s σ H E I q => h pins s σ H E I (k E σ H q)
theorem PSs.imp {e : List Stmt} {t t' : TS} (h : PSs X e t) (k : ∀ E σ H, t' E σ H → t E σ H) : PSs X e t' := fun pins s σ H E I q => h pins s σ H E I (k E σ H q)
theorem PI.imp {tg e : Expr} {t t' : TI} (h : PI X tg e t) (k : ∀ σ H R, t' σ H R → t σ H R) : PI X tg e t' := fun pins s σ H R I q => h pins s σ H R I (k σ H R q)
theorem PG.imp {e : Expr} {t t' : TG} (h : PG X e t) (k : ∀ v σ H Q, t' v σ H Q → t v σ H Q) : PG X e t' := fun pins s σ H v u Q I r q => h pins s σ H v u Q I r (k v σ H Q q)
theorem PGs.imp {e : List Expr} {t t' : TGs} (h : PGs X e t) (k : ∀ v σ H Q, t' v σ H Q → t v σ H Q) : PGs X e t' := fun pins s σ H v u Q I r q => h pins s σ H v u Q I r (k v σ H Q q)

theorem bind_some {α β : Type} {a : Option α} {f : α → Option β} {b : β} (h : a.bind f = some b) : ∃ x, a = some x ∧ f x = some b := by
  cases a with
  | none => cases h
  | some x => exact ⟨x, rfl, h⟩
theorem map_some {α β : Type} {a : Option α} {f : α → β} {b : β} (h : a.map f = some b) : ∃ x, a = some x ∧ f x = b := by
  cases a with
  | none => cases h
  | some x => exact ⟨x, rfl, Option.some.inj h⟩

def Sem2 (K : PySem.W.Frag) (r : R2) (g : Store → D → D → Option D) : Prop := ∀ (Γ : Fr) (μ : Mu) (σ : St) (H : Hp) (env : Env) (S : Store) (x y : V) (dx dy d : D), Γ.K = K → Rep Γ μ σ H env S → VR Γ μ H x dx → VR Γ μ H y dy → g S dx dy = some d →
  ∀ Q : VK, (∀ v H', Same H H' → VR Γ μ H' v d → Q v H') → r x y H Q
def Sem1 (K : PySem.W.Frag) (r : V → Hp → VK → Prop) (g : Store → D → Option D) : Prop := ∀ (Γ : Fr) (μ : Mu) (σ : St) (H : Hp) (env : Env) (S : Store) (x : V) (dx d : D), Γ.K = K → Rep Γ μ σ H env S → VR Γ μ H x dx → g S dx = some d →
  ∀ Q : VK, (∀ v H', Same H H' → VR Γ μ H' v d → Q v H') → r x H Q
def SemC (K : PySem.W.Frag) (r : List V → Hp → VK → Prop) (g : Store → List D → Option D) : Prop := ∀ (Γ : Fr) (μ : Mu) (σ : St) (H : Hp) (env : Env) (S : Store) (xs : List V) (ds : List D) (d : D), Γ.K = K → Rep Γ μ σ H env S → VRs Γ μ H xs ds → g S ds = some d →
  ∀ Q : VK, (∀ v H', Same H H' → VR Γ μ H' v d → Q v H') → r xs H Q
def SemSl (K : PySem.W.Frag) (r : V → Option Int → Option Int → Hp → VK → Prop) (g : Store → D → Option Int → Option Int → Option D) : Prop := ∀ (Γ : Fr) (μ : Mu) (σ : St) (H : Hp) (env : Env) (S : Store) (x : V) (dx d : D) (l h : Option Int), Γ.K = K → Rep Γ μ σ H env S → VR Γ μ H x dx → g S dx l h = some d →
  ∀ Q : VK, (∀ v H', Same H H' → VR Γ μ H' v d → Q v H') → r x l h H Q

theorem wp_op {K : PySem.W.Frag} {r : R2} {g : Store → D → D → Option D} {fa fb : ESem} (hs : Sem2 K r g) {σ : St} {H : Hp} {Q : VK} (h : wpE K (eOp g fa fb) σ H Q) : tOp r (wpE K fa) (wpE K fb) σ H Q := by
  obtain ⟨Γ, μ, env, S, d, S', hK, R, e, q⟩ := h
  obtain ⟨⟨x, S1⟩, e1, e⟩ := bind_some e
  obtain ⟨⟨y, S2⟩, e2, e⟩ := bind_some e
  obtain ⟨z, e3, e⟩ := map_some e
  cases e
  refine ⟨Γ, μ, env, S, x, S1, hK, R, e1, fun v1 μ1 H1 x1 R1 r1 => ?_⟩
  refine ⟨Γ, μ1, env, S1, y, S2, hK, R1, e2, fun v2 μ2 H2 x2 R2 r2 => ?_⟩
  refine hs Γ μ2 σ H2 env S2 v1 v2 x y _ hK R2 (r1.ext x2) r2 e3 Q fun v H' sm rv => ?_
  obtain ⟨R3, x3⟩ := R2.grow sm
  exact q v μ2 H' (x1.trans (x2.trans x3)) R3 rv
theorem je_op {op : Operator} {r : R2} {g : Store → D → D → Option D} {a b : Expr} {fa fb : ESem} {pos : Pos} (ho : OpR X (binaryOp op) r) (hs : Sem2 X.K r g) (ha : JE X a fa) (hb : JE X b fb) : JE X (.BinOp a op b pos) (eOp g fa fb) :=
  ⟨PE.imp (pe_op ho ha.pe hb.pe) fun _ _ _ h => wp_op hs h⟩
theorem je_cmp {op : CmpOp} {r : R2} {g : Store → D → D → Option D} {a b : Expr} {fa fb : ESem} {pos : Pos} (ho : OpR X (compareOp op) r) (hs : Sem2 X.K r g) (ha : JE X a fa) (hb : JE X b fb) (hm : behindInMarks op b = false) : JE X (.Compare a [op] [b] pos) (eOp g fa fb) :=
  ⟨PE.imp (pe_cmpR ho ha.pe hb.pe hm) fun _ _ _ h => wp_op hs h⟩
theorem je_ix {r : R2} {g : Store → D → D → Option D} {a b : Expr} {fa fb : ESem} {pos : Pos} (ho : IxR X r) (hs : Sem2 X.K r g) (ha : JE X a fa) (hb : JE X b fb) (hp : PlainIx b) : JE X (.Subscript a b pos) (eOp g fa fb) :=
  ⟨PE.imp (pe_ix ho ha.pe hb.pe hp) fun _ _ _ h => wp_op hs h⟩
theorem je_un {op : UnaryOp} {r : V → Hp → VK → Prop} {g : Store → D → Option D} {a : Expr} {fa : ESem} {pos : Pos} (ho : UnR X (unaryOp op) r) (hs : Sem1 X.K r g) (ha : JE X a fa) : JE X (.UnaryOp op a pos) (eUn g fa) :=
  ⟨PE.imp (pe_un ho ha.pe) fun σ H Q h => by
    obtain ⟨Γ, μ, env, S, d, S', hK, R, e, q⟩ := h
    obtain ⟨⟨x, S1⟩, e1, e⟩ := bind_some e
    obtain ⟨z, e3, e⟩ := map_some e
    cases e
    refine ⟨Γ, μ, env, S, x, S1, hK, R, e1, fun v1 μ1 H1 x1 R1 r1 => ?_⟩
    refine hs Γ μ1 σ H1 env S1 v1 x _ hK R1 r1 e3 Q fun v H' sm rv => ?_
    obtain ⟨R3, x3⟩ := R1.grow sm
    exact q v μ1 H' (x1.trans x3) R3 rv⟩
theorem je_var (i : Nat) {x : Str} {pos : Pos} (hN : X.N[i]? = some x := by rfl) (hv : Vis X.env.scope x := by first | exact Or.inl rfl | exact Or.inr (Or.inl rfl) | exact Or.inr (Or.inr rfl)) (hd : (x == ("__debug__" : Str)) = false := by decide)
    (hcd : (x == ("__classdict__" : Str)) = false := by decide) : JE X (.Name x pos) (eVar i) :=
  ⟨PE.imp (pe_var hN hv hd hcd) fun σ H Q h => by
    obtain ⟨Γ, μ, env, S, d, S', hK, R, e, q⟩ := h
    obtain ⟨d', e1, e⟩ := map_some e
    cases e
    have e1' : env[i]? = some (some d) := by
      cases h : env[i]? with
      | none => rw [h] at e1; cases e1
      | some o => rw [h] at e1; exact congrArg some e1
    obtain ⟨v, h1, h2⟩ := R.vals i d e1'
    exact ⟨v, h1, q v μ H (Ext.refl _ _) R h2⟩⟩
theorem wp_c {K : PySem.W.Frag} {v : V} {d : D} (h : ∀ Γ μ H, VR Γ μ H v d) {σ : St} {H : Hp} {Q : VK} (w : wpE K (eC d) σ H Q) : tC v σ H Q := by
  obtain ⟨Γ, μ, env, S, d', S', hK, R, e, q⟩ := w
  cases e
  exact q v μ H (Ext.refl _ _) R (h Γ μ H)
theorem je_int {i j pos} : JE X (.Constant (.int i) j pos) (eC (.int i)) := ⟨PE.imp pe_int fun _ _ _ => wp_c fun _ _ _ => .int i⟩
theorem je_bl {b j pos} : JE X (.Constant (.bool b) j pos) (eC (.bl b)) := ⟨PE.imp pe_bl fun _ _ _ => wp_c fun _ _ _ => .bl b⟩
theorem je_non {j pos} : JE X (.Constant .none j pos) (eC .non) := ⟨PE.imp pe_non fun _ _ _ => wp_c fun _ _ _ => .non⟩
theorem je_ty {n : String} {x : Str} {pos : Pos} (hg : Gl X x) (hm : X.mg x = none) (hv : bootBuiltins x = some (.type n)) (hn : x ≠ "__name__" := by decide) (hd : (x == ("__debug__" : Str)) = false := by decide) : JE X (.Name x pos) (eC (.ty n)) :=
  ⟨PE.imp (pe_bltn (v := .ty n) hg hm hv rfl hn hd) fun _ _ _ => wp_c fun _ _ _ => .ty n⟩

theorem ja_nil : JA X [] aNil := ⟨PA.imp pa_nil fun σ H Q h => by
  obtain ⟨Γ, μ, env, S, d, S', hK, R, e, q⟩ := h
  cases e
  exact q [] μ H (Ext.refl _ _) R .nil⟩
theorem ja_cons {e : Expr} {es : List Expr} {f : ESem} {r : ASem} (ha : JE X e f) (hr : JA X es r) (hs : starEach (e :: es) X.env = (false, eval e X.env) :: starEach es X.env := by rfl) : JA X (e :: es) (aCons f r) :=
  ⟨PA.imp (pa_cons ha.pe hr.pa hs) fun σ H Q h => by
    obtain ⟨Γ, μ, env, S, d, S', hK, R, e, q⟩ := h
    obtain ⟨⟨x, S1⟩, e1, e⟩ := bind_some e
    obtain ⟨⟨y, S2⟩, e2, e⟩ := bind_some e
    cases e
    refine ⟨Γ, μ, env, S, x, S1, hK, R, e1, fun v1 μ1 H1 x1 R1 r1 => ?_⟩
    refine ⟨Γ, μ1, env, S1, y, S2, hK, R1, e2, fun v2 μ2 H2 x2 R2 r2 => ?_⟩
    exact q _ μ2 H2 (x1.trans x2) R2 (.cons (r1.ext x2) r2)⟩
theorem big {n : Nat} (h : n ≤ 1000000) : n < sizeLine := Nat.lt_of_le_of_lt h (by decide)
theorem wp_tup {K : PySem.W.Frag} {f : ASem} {σ : St} {H : Hp} {Q : VK} (hl : ∀ env S p, f env S = some p → p.1.length ≤ 1000000) (h : wpE K (eTup f) σ H Q) : tTup (wpA K f) σ H Q := by
  obtain ⟨Γ, μ, env, S, d, S', hK, R, e, q⟩ := h
  obtain ⟨⟨x, S1⟩, e1, e⟩ := bind_some e
  cases e
  refine ⟨Γ, μ, env, S, x, S1, hK, R, e1, fun vs μ1 H1 x1 R1 r1 => ⟨by rw [r1.length]; exact Nat.le_of_lt (big (hl _ _ _ e1)), fun p hp => ?_⟩⟩
  have sm := same_new hp (.tup vs)
  obtain ⟨R2, x2⟩ := R1.grow sm
  exact q _ μ1 _ (x1.trans x2) R2 (.tup upd_same (r1.ext x2))
def Few (n : Nat) (f : ASem) : Prop := ∀ env S p, f env S = some p → p.1.length ≤ n
theorem few_nil : Few 0 aNil := fun env S p h => by cases h; exact Nat.le_refl _
theorem few_cons {n : Nat} {f : ESem} {r : ASem} (h : Few n r) : Few (n + 1) (aCons f r) := fun env S p e => by
  obtain ⟨⟨x, S1⟩, e1, e⟩ := bind_some e
  obtain ⟨⟨y, S2⟩, e2, e⟩ := bind_some e
  cases e
  have := h _ _ _ e2
  show (x :: y).length ≤ n + 1
  rw [List.length_cons]
  exact Nat.succ_le_succ this
theorem je_tup {es : List Expr} {f : ASem} {x1 : Nat} {pos : Pos} {n : Nat} (h : JA X es f) (hf : Few n f) (hn : n ≤ 1000000 := by decide) : JE X (.Tuple es x1 pos) (eTup f) := ⟨PE.imp (pe_tup h.pa) fun _ _ _ w => wp_tup (fun env S p e => Nat.le_trans (hf env S p e) hn) w⟩
theorem je_lstF {es : List Expr} {f : ASem} {pos : Pos} {n : Nat} (h : JA X es f) (hf : Few n f) (hn : n ≤ 1000000 := by decide) : JE X (.List es pos) (eFrz f) := ⟨PE.imp (pe_lst h.pa) fun σ H Q w => by
  obtain ⟨Γ, μ, env, S, d, S', hK, R, e, q⟩ := w
  obtain ⟨⟨x, S1⟩, e1, e⟩ := bind_some e
  cases e
  refine ⟨Γ, μ, env, S, x, S1, hK, R, e1, fun vs μ1 H1 x1 R1 r1 => ⟨by rw [r1.length]; exact Nat.le_of_lt (big (Nat.le_trans (hf _ _ _ e1) hn)), fun p hp => ?_⟩⟩
  obtain ⟨R2, x2⟩ := R1.grow (same_new hp (.lst vs))
  exact q _ μ1 _ (x1.trans x2) R2 (.lst (R1.ok hp true) (R1.dead hp) upd_same (r1.ext x2))⟩
theorem je_lstS {es : List Expr} {f : ASem} {pos : Pos} {n : Nat} (h : JA X es f) (hf : Few n f) (hn : n ≤ 1000000 := by decide) : JE X (.List es pos) (eSto f) := ⟨PE.imp (pe_lst h.pa) fun σ H Q w => by
  obtain ⟨Γ, μ, env, S, d, S', hK, R, e, q⟩ := w
  obtain ⟨⟨x, S1⟩, e1, e⟩ := bind_some e
  cases e
  refine ⟨Γ, μ, env, S, x, S1, hK, R, e1, fun vs μ1 H1 x1 R1 r1 => ⟨by rw [r1.length]; exact Nat.le_of_lt (big (Nat.le_trans (hf _ _ _ e1) hn)), fun p hp => ?_⟩⟩
  obtain ⟨R2, x2⟩ := R1.laid hp r1
  exact q _ _ _ (x1.trans x2) R2 (.ref (by rw [List.length_append, R1.slen]; simp) fun a h => by
    rw [R1.slen] at h
    simp at h
    rw [h])⟩
end
end VS
end
section
set_option Elab.async false
set_option maxRecDepth 10000
set_option linter.all false
namespace VS
open PySem PySem.Spec L2
section
variable {X : Cx} {a b c : Expr} {fa fb fc : ESem} {pos : Pos} {rest : List Expr}

theorem je_one {op} (h : JE X a fa) : JE X (.BoolOp op [a] pos) fa := ⟨pe_one h.pe⟩
theorem je_and (ha : JE X a fa) (hb : JE X (.BoolOp .And (b :: rest) pos) fb) : JE X (.BoolOp .And (a :: b :: rest) pos) (eAnd fa fb) := ⟨PE.imp (pe_and ha.pe hb.pe) fun σ H Q h => by
  obtain ⟨Γ, μ, env, S, d, S', hK, R, e, q⟩ := h
  obtain ⟨⟨x, S1⟩, e1, e⟩ := bind_some e
  refine ⟨Γ, μ, env, S, x, S1, hK, R, e1, fun v1 μ1 H1 x1 R1 r1 => ?_⟩
  dsimp only at e
  split at e
  · cases r1
    exact ⟨true, rfl, by rw [if_pos rfl]; exact ⟨Γ, μ1, env, S1, d, S', hK, R1, e, fun v μ' H' x' R' r' => q v μ' H' (x1.trans x') R' r'⟩⟩
  · cases r1
    cases e
    exact ⟨false, rfl, by rw [if_neg Bool.false_ne_true]; exact q _ μ1 H1 x1 R1 (.bl false)⟩
  · cases e⟩
theorem je_not (ha : JE X a fa) : JE X (.UnaryOp .Not a pos) (eNot fa) := ⟨PE.imp (pe_not ha.pe) fun σ H Q h => by
  obtain ⟨Γ, μ, env, S, d, S', hK, R, e, q⟩ := h
  obtain ⟨⟨x, S1⟩, e1, e⟩ := bind_some e
  refine ⟨Γ, μ, env, S, x, S1, hK, R, e1, fun v1 μ1 H1 x1 R1 r1 => ?_⟩
  dsimp only at e
  split at e
  · rename_i c
    cases r1
    cases e
    exact ⟨c, rfl, q _ μ1 H1 x1 R1 (.bl _)⟩
  · cases e⟩
theorem jt_val {e : Expr} (h : JE X e fa) (he : ∀ whole, isTrue e X.env whole = (do let v ← whole; standAt e.pos; holding [v] (truthy v)) := by intro _; rfl) : JT X e (tVal fa) := ⟨PT.imp (pt_val h.pe he) fun σ H Q h => by
  obtain ⟨Γ, μ, env, S, d, S', hK, R, e, q⟩ := h
  obtain ⟨⟨x, S1⟩, e1, e⟩ := bind_some e
  refine ⟨Γ, μ, env, S, x, S1, hK, R, e1, fun v1 μ1 H1 x1 R1 r1 => ?_⟩
  dsimp only at e
  split at e
  · rename_i c
    cases r1
    cases e
    exact ⟨_, rfl, q μ1 H1 x1 R1⟩
  · cases e⟩
theorem wp_test {K : PySem.W.Frag} {f : ESem} {t : TE} (ht : ∀ σ H Q, wpE K f σ H Q → t σ H Q) {σ : St} {H : Hp} {Q : Bool → Hp → Prop} (h : wpT K (tVal f) σ H Q) : tTest t σ H Q := by
  obtain ⟨Γ, μ, env, S, d, S', hK, R, e, q⟩ := h
  obtain ⟨⟨x, S1⟩, e1, e⟩ := bind_some e
  refine ht σ H _ ⟨Γ, μ, env, S, x, S1, hK, R, e1, fun v1 μ1 H1 x1 R1 r1 => ?_⟩
  dsimp only at e
  split at e
  · cases r1
    cases e
    exact ⟨_, rfl, q μ1 H1 x1 R1⟩
  · cases e
theorem jt_cmp {op : CmpOp} {r : R2} {g : Store → D → D → Option D} (ho : OpR X (compareOp op) r) (hs : Sem2 X.K r g) (ha : JE X a fa) (hb : JE X b fb) (hm : behindInMarks op b = false) : JT X (.Compare a [op] [b] pos) (tVal (eOp g fa fb)) :=
  ⟨PT.imp (pt_cmpR ho ha.pe hb.pe hm) fun σ H Q h => wp_test (fun _ _ _ => wp_op hs) h⟩
theorem wp_chain {K : PySem.W.Frag} {r r' : R2} {g g' : Store → D → D → Option D} (hs : Sem2 K r g) (hs' : Sem2 K r' g') {σ : St} {H : Hp} {Q : VK} (h : wpE K (eChain g g' fa fb fc) σ H Q) : tChain r r' (wpE K fa) (wpE K fb) (wpE K fc) σ H Q := by
  obtain ⟨Γ, μ, env, S, d, S', hK, R, e, q⟩ := h
  obtain ⟨⟨x, S1⟩, e1, e⟩ := bind_some e
  obtain ⟨⟨y, S2⟩, e2, e⟩ := bind_some e
  obtain ⟨z, e3, e⟩ := bind_some e
  refine ⟨Γ, μ, env, S, x, S1, hK, R, e1, fun v1 μ1 H1 x1 R1 r1 => ?_⟩
  refine ⟨Γ, μ1, env, S1, y, S2, hK, R1, e2, fun v2 μ2 H2 x2 R2 r2 => ?_⟩
  refine hs Γ μ2 σ H2 env S2 v1 v2 x y _ hK R2 (r1.ext x2) r2 e3 _ fun v H3 sm rv => ?_
  obtain ⟨R3, x3⟩ := R2.grow sm
  dsimp only at e
  split at e
  · cases rv
    refine ⟨true, rfl, ?_⟩
    rw [if_pos rfl]
    obtain ⟨⟨u, S3⟩, e4, e⟩ := bind_some e
    obtain ⟨w, e5, e⟩ := map_some e
    cases e
    refine ⟨Γ, μ2, env, S2, u, S3, hK, R3, e4, fun v4 μ4 H4 x4 R4 r4 => ?_⟩
    refine hs' Γ μ4 σ H4 env S3 v2 v4 y u _ hK R4 (r2.ext (x3.trans x4)) r4 e5 _ fun v5 H5 sm5 rv5 => ?_
    obtain ⟨R5, x5⟩ := R4.grow sm5
    exact q v5 μ4 H5 (x1.trans (x2.trans (x3.trans (x4.trans x5)))) R5 rv5
  · cases rv
    cases e
    refine ⟨false, rfl, ?_⟩
    rw [if_neg Bool.false_ne_true]
    exact q _ μ2 H3 (x1.trans (x2.trans x3)) R3 (.bl false)
  · cases e
theorem jt_chain {op op' : CmpOp} {r r' : R2} {g g' : Store → D → D → Option D} (ho : OpR X (compareOp op) r) (hs : Sem2 X.K r g) (ho' : OpR X (compareOp op') r') (hs' : Sem2 X.K r' g') (ha : JE X a fa) (hb : JE X b fb) (hc : JE X c fc)
    (hm : lastMarks [op, op'] [b, c] = false := by with_unfolding_all rfl) : JT X (.Compare a [op, op'] [b, c] pos) (tVal (eChain g g' fa fb fc)) := ⟨PT.imp (pt_chain ho ho' ha.pe hb.pe hc.pe hm) fun _ _ _ h => wp_test (fun _ _ _ => wp_chain hs hs') h⟩
variable {ta tb : TSem}
theorem jt_of (h : JW X a ta) : JT X a ta := ⟨h.pw.pt⟩
theorem jw_and1 (ha : JT X a ta) : JW X (.BoolOp .And [a] pos) ta := ⟨pw_and1 ha.pt⟩
theorem jw_or1 (ha : JT X a ta) : JW X (.BoolOp .Or [a] pos) ta := ⟨pw_or1 ha.pt⟩
theorem jw_and (ha : JT X a ta) (hb : JW X (.BoolOp .And (b :: rest) pos) tb) : JW X (.BoolOp .And (a :: b :: rest) pos) (tAnd ta tb) := ⟨PW.imp (pw_and ha.pt hb.pw) fun σ H Q h => by
  obtain ⟨Γ, μ, env, S, d, S', hK, R, e, q⟩ := h
  obtain ⟨⟨x, S1⟩, e1, e⟩ := bind_some e
  refine ⟨Γ, μ, env, S, x, S1, hK, R, e1, fun μ1 H1 x1 R1 => ?_⟩
  dsimp only at e
  by_cases hx : x = true
  · rw [if_pos hx] at e ⊢
    exact ⟨Γ, μ1, env, S1, d, S', hK, R1, e, fun μ' H' x' R' => q μ' H' (x1.trans x') R'⟩
  · rw [if_neg hx] at e ⊢
    cases e
    exact q μ1 H1 x1 R1⟩
theorem jw_or (ha : JT X a ta) (hb : JW X (.BoolOp .Or (b :: rest) pos) tb) : JW X (.BoolOp .Or (a :: b :: rest) pos) (tOr ta tb) := ⟨PW.imp (pw_or ha.pt hb.pw) fun σ H Q h => by
  obtain ⟨Γ, μ, env, S, d, S', hK, R, e, q⟩ := h
  obtain ⟨⟨x, S1⟩, e1, e⟩ := bind_some e
  refine ⟨Γ, μ, env, S, x, S1, hK, R, e1, fun μ1 H1 x1 R1 => ?_⟩
  dsimp only at e
  by_cases hx : x = true
  · rw [if_pos hx] at e ⊢
    cases e
    exact q μ1 H1 x1 R1
  · rw [if_neg hx] at e ⊢
    exact ⟨Γ, μ1, env, S1, d, S', hK, R1, e, fun μ' H' x' R' => q μ' H' (x1.trans x') R'⟩⟩
theorem jt_not (ha : JT X a ta) : JT X (.UnaryOp .Not a pos) (tNot ta) := ⟨PT.imp (pt_not ha.pt) fun σ H Q h => by
  obtain ⟨Γ, μ, env, S, d, S', hK, R, e, q⟩ := h
  obtain ⟨⟨x, S1⟩, e1, e⟩ := bind_some e
  cases e
  exact ⟨Γ, μ, env, S, x, S1, hK, R, e1, fun μ1 H1 x1 R1 => q μ1 H1 x1 R1⟩⟩
theorem jts_nil : JTs X [] tYes := ⟨PTs.imp pts_nil fun σ H Q h => by
  obtain ⟨Γ, μ, env, S, d, S', hK, R, e, q⟩ := h
  cases e
  exact q μ H (Ext.refl _ _) R⟩
theorem jts_one (h : JT X c ta) : JTs X [c] ta := ⟨pts_one h.pt⟩

variable {lo hi : Option Expr} {ol oh : OSem} {p2 : Pos}
theorem jo_none : JO X none oNone := ⟨PO.imp po_none fun σ H Q h => by
  obtain ⟨Γ, μ, env, S, d, S', hK, R, e, q⟩ := h
  cases e
  exact q μ H (Ext.refl _ _) R⟩
theorem jo_some (h : JE X a fa) : JO X (some a) (oSome fa) := ⟨PO.imp (po_some h.pe) fun σ H Q h => by
  obtain ⟨Γ, μ, env, S, d, S', hK, R, e, q⟩ := h
  obtain ⟨⟨x, S1⟩, e1, e⟩ := bind_some e
  refine ⟨Γ, μ, env, S, x, S1, hK, R, e1, fun v1 μ1 H1 x1 R1 r1 => ?_⟩
  dsimp only at e
  split at e
  · cases r1
    cases e
    exact ⟨_, rfl, q μ1 H1 x1 R1⟩
  · cases e⟩
theorem je_slice {r : V → Option Int → Option Int → Hp → VK → Prop} {g : Store → D → Option Int → Option Int → Option D} (hr : SlR X r) (hs : SemSl X.K r g) (ha : JE X a fa) (hl : JO X lo ol) (hh : JO X hi oh) :
    JE X (.Subscript a (.Slice lo hi none p2) pos) (eSl g fa ol oh) := ⟨PE.imp (pe_slice hr ha.pe hl.po hh.po) fun σ H Q h => by
  obtain ⟨Γ, μ, env, S, d, S', hK, R, e, q⟩ := h
  obtain ⟨⟨x, S1⟩, e1, e⟩ := bind_some e
  obtain ⟨⟨l, S2⟩, e2, e⟩ := bind_some e
  obtain ⟨⟨u, S3⟩, e3, e⟩ := bind_some e
  obtain ⟨z, e4, e⟩ := map_some e
  cases e
  refine ⟨Γ, μ, env, S, x, S1, hK, R, e1, fun v1 μ1 H1 x1 R1 r1 => ?_⟩
  refine ⟨Γ, μ1, env, S1, l, S2, hK, R1, e2, fun μ2 H2 x2 R2 => ?_⟩
  refine ⟨Γ, μ2, env, S2, u, S3, hK, R2, e3, fun μ3 H3 x3 R3 => ?_⟩
  refine hs Γ μ3 σ H3 env S3 v1 x _ l u hK R3 (r1.ext (x2.trans x3)) e4 Q fun v H' sm rv => ?_
  obtain ⟨R4, x4⟩ := R3.grow sm
  exact q v μ3 H' (x1.trans (x2.trans (x3.trans x4))) R4 rv⟩

theorem wp_cb {K : PySem.W.Frag} {r : List V → Hp → VK → Prop} {g : Store → List D → Option D} {f : ASem} (hs : SemC K r g) {σ : St} {H : Hp} {Q : VK} (h : wpE K (eCB g f) σ H Q) : tCB r (wpA K f) σ H Q := by
  obtain ⟨Γ, μ, env, S, d, S', hK, R, e, q⟩ := h
  obtain ⟨⟨x, S1⟩, e1, e⟩ := bind_some e
  obtain ⟨z, e4, e⟩ := map_some e
  cases e
  refine ⟨Γ, μ, env, S, x, S1, hK, R, e1, fun v1 μ1 H1 x1 R1 r1 => ?_⟩
  refine hs Γ μ1 σ H1 env S1 v1 x _ hK R1 r1 e4 Q fun v H' sm rv => ?_
  obtain ⟨R4, x4⟩ := R1.grow sm
  exact q v μ1 H' (x1.trans x4) R4 rv
variable {x : Str} {p : Pos} {e : Expr} {es : List Expr} {id T : String} {f : ASem}
theorem je_callB {r : List V → Hp → VK → Prop} {g : Store → List D → Option D} (hc : CallR X (.builtin id) r) (hsm : SemC X.K r g) (hg : Gl X x) (hm : X.mg x = none) (hv : bootBuiltins x = some (.builtin id)) (ha : JA X (e :: es) f) (hn : x ≠ "__name__" := by decide) (hdb : (x == ("__debug__" : Str)) = false := by decide)
    (he : starEach (e :: es) X.env = (false, eval e X.env) :: starEach es X.env := by rfl) (hpl : (backTo pos (starEach es X.env)).any (·.1) = false := by rfl) : JE X (.Call (.Name x p) (e :: es) [] pos) (eCB g f) :=
  ⟨PE.imp (pe_callB hc hg hm hv ha.pa hn hdb he hpl) fun _ _ _ h => wp_cb hsm h⟩
theorem je_callTy {r : List V → Hp → VK → Prop} {g : Store → List D → Option D} (hc : CallR X (.type T) r) (hsm : SemC X.K r g) (hg : Gl X x) (hm : X.mg x = none) (hv : bootBuiltins x = some (.type T)) (ha : JA X (e :: es) f) (hn : x ≠ "__name__" := by decide) (hdb : (x == ("__debug__" : Str)) = false := by decide)
    (he : starEach (e :: es) X.env = (false, eval e X.env) :: starEach es X.env := by rfl) (hpl : (backTo pos (starEach es X.env)).any (·.1) = false := by rfl) : JE X (.Call (.Name x p) (e :: es) [] pos) (eCB g f) :=
  ⟨PE.imp (pe_callTy hc hg hm hv ha.pa hn hdb he hpl) fun _ _ _ h => wp_cb hsm h⟩
end

section
variable {X : Cx} {st : Stmt} {sts : List Stmt} {f g : SSem} {fa : ESem} {a : Expr} {pos : Pos} {K : PySem.W.Frag}
theorem wp_nx {E : Ends} {σ : St} {H : Hp} {fl : Fl} (h : wpS K (fun env S => some (fl, env, S)) E σ H) : ∃ Γ μ, FlQ Γ μ E σ H fl := by
  obtain ⟨Γ, μ, env, S, fl', env', S', hK, R, e, q⟩ := h
  cases e
  exact ⟨Γ, μ, q μ σ H (Ext.refl _ _) R⟩
theorem jss_nil : JSs X [] sNil := ⟨PSs.imp pss_nil fun E σ H h => let ⟨_, _, q⟩ := wp_nx (fl := .nx) h; q⟩
theorem js_never : JS X st sNever := ⟨PS.imp ps_never fun E σ H h => by obtain ⟨_, _, _, _, _, _, _, _, _, e, _⟩ := h; cases e⟩
theorem FlQ.ext {Γ : Fr} {μ : Mu} {E E' : Ends} {σ : St} {H : Hp} {fl : Fl} (q : FlQ Γ μ E σ H fl) (h1 : ∀ σ H, E.nx σ H → E'.nx σ H) (h2 : ∀ σ H, E.bk σ H → E'.bk σ H) (h3 : ∀ σ H, E.ct σ H → E'.ct σ H) (h4 : ∀ v H, E.rt v H → E'.rt v H) : FlQ Γ μ E' σ H fl := by
  cases fl with
  | nx => exact h1 _ _ q
  | brk => exact h2 _ _ q
  | cnt => exact h3 _ _ q
  | ret d => exact fun v r => h4 _ _ (q v r)
theorem jss_cons (h1 : JS X st f) (h2 : JSs X sts g) : JSs X (st :: sts) (sSeq f g) := ⟨PSs.imp (pss_cons h1.ps h2.ps) fun E σ H h => by
  obtain ⟨Γ, μ, env, S, fl, env', S', hK, R, e, q⟩ := h
  obtain ⟨⟨fl1, env1, S1⟩, e1, e⟩ := bind_some e
  refine ⟨Γ, μ, env, S, fl1, env1, S1, hK, R, e1, fun μ1 σ1 H1 x1 R1 => ?_⟩
  dsimp only at e
  cases fl1 with
  | nx => exact ⟨Γ, μ1, env1, S1, fl, env', S', hK, R1, e, fun μ' σ' H' x' R' => q μ' σ' H' (x1.trans x') R'⟩
  | brk => cases e; exact q μ1 σ1 H1 x1 R1
  | cnt => cases e; exact q μ1 σ1 H1 x1 R1
  | ret d => cases e; exact q μ1 σ1 H1 x1 R1⟩
theorem jss_one (h1 : JS X st f) : JSs X [st] f := ⟨pss_one h1.ps⟩
theorem js_exp (he : JE X a fa) (hs : swapsWith a none pos.line X.env = pure false := by rfl) : JS X (.Expr a pos) (sExp fa) := ⟨PS.imp (ps_expr he.pe hs) fun E σ H h => by
  obtain ⟨Γ, μ, env, S, fl, env', S', hK, R, e, q⟩ := h
  obtain ⟨⟨x, S1⟩, e1, e⟩ := bind_some e
  cases e
  exact ⟨Γ, μ, env, S, x, S1, hK, R, e1, fun v1 μ1 H1 x1 R1 r1 => q μ1 σ H1 x1 R1⟩⟩
theorem js_ret (he : JE X a fa) : JS X (.Return (some a) pos) (sRet fa) := ⟨PS.imp (ps_ret he.pe) fun E σ H h => by
  obtain ⟨Γ, μ, env, S, fl, env', S', hK, R, e, q⟩ := h
  obtain ⟨⟨x, S1⟩, e1, e⟩ := bind_some e
  cases e
  exact ⟨Γ, μ, env, S, x, S1, hK, R, e1, fun v1 μ1 H1 x1 R1 r1 => q μ1 σ H1 x1 R1 v1 r1⟩⟩
theorem js_if {c : Expr} {A B : List Stmt} {tc : TSem} (hc : JT X c tc) (ha : JSs X A f) (hb : JSs X B g) : JS X (.If c A B pos) (sIf tc f g) := ⟨PS.imp (ps_if hc.pt ha.ps hb.ps) fun E σ H h => by
  obtain ⟨Γ, μ, env, S, fl, env', S', hK, R, e, q⟩ := h
  obtain ⟨⟨x, S1⟩, e1, e⟩ := bind_some e
  refine ⟨Γ, μ, env, S, x, S1, hK, R, e1, fun μ1 H1 x1 R1 => ?_⟩
  dsimp only at e
  by_cases hx : x = true
  · rw [if_pos hx] at e ⊢
    exact ⟨Γ, μ1, env, S1, fl, env', S', hK, R1, e, fun μ' σ' H' x' R' => q μ' σ' H' (x1.trans x') R'⟩
  · rw [if_neg hx] at e ⊢
    exact ⟨Γ, μ1, env, S1, fl, env', S', hK, R1, e, fun μ' σ' H' x' R' => q μ' σ' H' (x1.trans x') R'⟩⟩
theorem js_set {i : Nat} {x : Str} {pos' : Pos} (hN : X.N.Nodup) (he : JE X a fa) (hi : X.N[i]? = some x := by rfl) (hx : Loc X.env.scope x := by first | exact Or.inl rfl | exact Or.inr rfl) (hs : swapsWith a (some (.Name x pos')) pos.line X.env = pure false := by rfl)
    (hf : X.fn x = true ∨ X.env.scope.names.lookup x = some .local := by first | exact .inl rfl | exact .inr rfl | assumption) : JS X (.Assign [.Name x pos'] a pos) (sSet i fa) := ⟨PS.imp (ps_set hN hi hx he.pe hs hf) fun E σ H h => by
  obtain ⟨Γ, μ, env, S, fl, env', S', hK, R, e, q⟩ := h
  obtain ⟨⟨y, S1⟩, e1, e⟩ := bind_some e
  cases e
  exact ⟨Γ, μ, env, S, y, S1, hK, R, e1, fun v1 μ1 H1 x1 R1 r1 => q μ1 _ H1 x1 (R1.setv i r1)⟩⟩
theorem jg_name {i : Nat} {x : Str} (hN : X.N.Nodup) (hi : X.N[i]? = some x := by rfl) (hx : Loc X.env.scope x := by first | exact Or.inl rfl | exact Or.inr rfl)
    (hf : X.fn x = true ∨ X.env.scope.names.lookup x = some .local := by first | exact .inl rfl | exact .inr rfl | assumption) : JG X (.Name x pos) (.nm i) := ⟨by rw [Pat.raw]; exact pg_name hN hi hx hf⟩
theorem jgs_nil : JGs X [] [] := ⟨by rw [rawS]; exact pgs_nil⟩
theorem jgs_cons {e : Expr} {es : List Expr} {t : Pat} {u : List Pat} (h1 : JG X e t) (h2 : JGs X es u)
    (hs : (assignEach (e :: es) X.env).map (·.2) = assign e X.env :: (assignEach es X.env).map (·.2) := by rfl) : JGs X (e :: es) (t :: u) := ⟨by rw [rawS]; exact pgs_cons h1.pg h2.pg hs⟩
theorem jg_tup {es : List Expr} {k : Nat} {gs : List Pat} (hc : X.calm = true) (h : JGs X es gs) (hn : (assignEach es X.env).length = gs.length := by rfl) (hst : (assignEach es X.env).findIdx? (·.1) = none := by rfl) : JG X (.Tuple es k pos) (.tp gs) :=
  ⟨by rw [Pat.raw]; exact pg_tup hc h.pg hn hst⟩
theorem js_asg {tg : Expr} {gg : Pat} (he : JE X a fa) (hg : JG X tg gg) (hs : swapsWithSole [tg] a pos.line X.env = pure false := by rfl) (hw : swappedStores [tg] a X.env = pure none := by rfl)
    (h1 : (assignEach [tg] X.env).map (·.2) = [assign tg X.env] := by rfl) : JS X (.Assign [tg] a pos) (sAsg fa gg.sem) := ⟨PS.imp (ps_asg he.pe hg.pg hs hw h1) fun E σ H h => by
  obtain ⟨Γ, μ, env, S, fl, env', S', hK, R, e, q⟩ := h
  obtain ⟨⟨y, S1⟩, e1, e⟩ := bind_some e
  obtain ⟨env1, e2, e⟩ := bind_some e
  cases e
  exact ⟨Γ, μ, env, S, y, S1, hK, R, e1, fun v1 μ1 H1 x1 R1 r1 => gg.run X.K R1 r1 e2 fun σ' R' => q μ1 σ' H1 x1 R'⟩⟩

theorem ItOk.ext {Γ : Fr} {μ μ' : Mu} {H H' : Hp} {J : It} {ds : List D} {w : List (Nat × List D)} (h : ItOk Γ μ H J ds w) (x : Ext μ H μ' H') : ItOk Γ μ' H' J ds w :=
  ⟨fun i d μ2 H2 σ2 e2 S2 hi x2 R2 c => h.step i d μ2 H2 σ2 e2 S2 hi (x.trans x2) R2 c, fun μ2 H2 σ2 e2 S2 x2 R2 c => h.stop μ2 H2 σ2 e2 S2 (x.trans x2) R2 c⟩
theorem js_for {tg iter : Expr} {body : List Stmt} {it : ISem} {gg : Pat} (hc : X.calm = true) (hi : JI X tg iter it) (hg : JG X tg gg) (hb : JSs X body f) (hp : PassesOwn (model X.prog X.w) X.A X.env X.xe)
    (hs : ∀ x, foldedSetIterable iter X.env x = pure x := by intro _; rfl) : JS X (.For tg iter body [] pos) (sFor it gg.sem f) := ⟨PS.imp (ps_for hp hc hi.pi hg.pg hb.ps hs) fun E σ H h => by
  obtain ⟨Γ, μ, env, S, fl, env', S', hK, R, e, q⟩ := h
  obtain ⟨⟨⟨ds, w⟩, S1⟩, e1, e⟩ := bind_some e
  refine ⟨Γ, μ, env, S, ds, w, S1, hK, R, e1, fun J μ1 H1 x1 R1 ok => ?_⟩
  refine ⟨fun i m σ2 H2 => ∃ μ2 env2 S2, m = ds.length - i ∧ i ≤ ds.length ∧ Ext μ1 H1 μ2 H2 ∧ Rep Γ μ2 σ2 H2 env2 S2 ∧ loop w gg.sem f (ds.drop i) env2 S2 = some (fl, env', S'), ⟨ds.length, μ1, env, S1, rfl, Nat.zero_le _, Ext.refl _ _, R1, by rw [List.drop_zero]; exact e⟩, ?_⟩
  rintro i m σ2 H2 ⟨μ2, env2, S2, rfl, hi, x2, R2, el⟩
  by_cases hlt : i < ds.length
  · rw [List.drop_eq_getElem_cons hlt] at el
    unfold loop at el
    by_cases hcm : calm w S2
    · rw [if_pos hcm] at el
      obtain ⟨env3, e3, el⟩ := bind_some el
      obtain ⟨⟨fl4, env4, S4⟩, e4, el⟩ := bind_some el
      obtain ⟨go, yl⟩ := ok.step i ds[i] μ2 H2 σ2 env2 S2 (List.getElem?_eq_getElem hlt) x2 R2 hcm
      refine .inr ⟨go, fun σ5 H5 => ∃ μ5 env5 S5, Ext μ1 H1 μ5 H5 ∧ Rep Γ μ5 σ5 H5 env5 S5 ∧ loop w gg.sem f (ds.drop (i + 1)) env5 S5 = some (fl, env', S'), fun σ5 H5 ⟨μ5, env5, S5, x5, R5, e5⟩ => ⟨ds.length - (i + 1), by omega, μ5, env5, S5, rfl, hlt, x5, R5, e5⟩, fun x H3 y => ?_⟩
      obtain ⟨sm, rx⟩ := yl x H3 y
      obtain ⟨R3, x3⟩ := R2.grow sm
      refine gg.run X.K R3 rx e3 fun σ3 R3' => ?_
      refine ⟨Γ, μ2, env3, S2, fl4, env4, S4, hK, R3', e4, fun μ4 σ4 H4 x4 R4 => ?_⟩
      have x14 := x2.trans (x3.trans x4)
      dsimp only at el
      cases fl4 with
      | nx => exact ⟨μ4, env4, S4, x14, R4, el⟩
      | cnt => exact ⟨μ4, env4, S4, x14, R4, el⟩
      | brk => cases el; exact q μ4 σ4 H4 (x1.trans x14) R4
      | ret d => cases el; exact q μ4 σ4 H4 (x1.trans x14) R4
    · rw [if_neg hcm] at el; cases el
  · have hi' : i = ds.length := by omega
    subst hi'
    rw [List.drop_length] at el
    unfold loop at el
    by_cases hcm : calm w S2
    · rw [if_pos hcm] at el
      cases el
      exact .inl ⟨ok.stop μ2 H2 σ2 _ _ x2 R2 hcm, q μ2 σ2 H2 (x1.trans x2) R2⟩
    · rw [if_neg hcm] at el; cases el⟩
end
end VS
end
section
set_option Elab.async false
set_option maxRecDepth 10000
set_option linter.all false
namespace VS
open PySem PySem.Spec L2
theorem Rep.cap {Γ : Fr} {μ : Mu} {σ : St} {H : Hp} {env : Env} {S : Store} (R : Rep Γ μ σ H env S) (k : Nat) (caps : List Nat) : Rep Γ μ (capS k caps σ) H (capE k caps env) S := by
  refine ⟨fun i d h => ?_, ?_, R.sto, R.liv, R.inj, R.slen, R.ent, R.new⟩
  · unfold capE at h
    by_cases hi : i < k
    · rw [List.getElem?_append_left (by simpa using hi), List.getElem?_replicate, if_pos hi] at h
      cases h
    · rw [List.getElem?_append_right (by simpa using hi), List.length_replicate, List.getElem?_map] at h
      cases e : caps[i - k]? with
      | none => rw [e] at h; cases h
      | some a =>
        rw [e] at h
        have h' : (env[a]?).join = some d := Option.some.inj h
        have h2 : env[a]? = some (some d) := by
          cases q : env[a]? with
          | none => rw [q] at h'; cases h'
          | some o => rw [q] at h'; exact congrArg some h'
        obtain ⟨v, h3, h4⟩ := R.vals a d h2
        refine ⟨v, ?_, h4⟩
        unfold capS
        rw [List.getElem?_append_right (by simpa using hi), List.length_replicate, List.getElem?_map, e]
        show some (σ[a]?).join = some (some v)
        rw [h3]; rfl
  · unfold capS capE
    rw [List.length_append, List.length_append, List.length_map, List.length_map, List.length_replicate, List.length_replicate]

section
variable {X : Cx}
theorem wp_comp {K : PySem.W.Frag} {k : Nat} {caps : List Nat} {it : ISem} {p : Pat} {t : TSem} {f : ESem} {σ : St} {H : Hp} {Q : VK} (h : ∃ Γ μ env S ys S', Γ.K = K ∧ Rep Γ μ σ H env S ∧ aComp k caps it p.sem t f env S = some (ys, S') ∧
    ∀ xs μ' H', Ext μ H μ' H' → Rep Γ μ' σ H' env S' → VRs Γ μ' H' xs ys → ∀ q, H' q = none → Q (.ref q) (upd H' q (.lst xs))) : tComp k caps (wpI K it) (p.raw K) (wpT K t) (wpE K f) σ H Q := by
  obtain ⟨Γ, μ, env, S, ys, S', hK, R, e, q⟩ := h
  obtain ⟨⟨⟨ds, w⟩, S1⟩, e1, e⟩ := bind_some e
  refine ⟨Γ, μ, env, S, ds, w, S1, hK, R, e1, fun J μ1 H1 x1 R1 ok => ?_⟩
  refine ⟨fun i m zs H2 => ∃ μ2 S2 dzs, m = ds.length - i ∧ i ≤ ds.length ∧ Ext μ1 H1 μ2 H2 ∧ Rep Γ μ2 σ H2 env S2 ∧ VRs Γ μ2 H2 zs dzs ∧ cloop w (capE k caps env) p.sem t f (ds.drop i) dzs S2 = some (ys, S'),
    ⟨ds.length, μ1, S1, [], rfl, Nat.zero_le _, Ext.refl _ _, R1, .nil, by rw [List.drop_zero]; exact e⟩, ?_⟩
  rintro i m zs H2 ⟨μ2, S2, dzs, rfl, hi, x2, R2, rz, el⟩
  by_cases hlt : i < ds.length
  · rw [List.drop_eq_getElem_cons hlt] at el
    unfold cloop at el
    by_cases hcm : calm w S2 ∧ dzs.length ≤ 1000000
    · rw [if_pos hcm] at el
      obtain ⟨env3, e3, el⟩ := bind_some el
      obtain ⟨⟨b, S4⟩, e4, el⟩ := bind_some el
      have R2c := R2.cap k caps
      obtain ⟨go, yl⟩ := ok.step i ds[i] μ2 H2 _ _ S2 (List.getElem?_eq_getElem hlt) x2 R2c hcm.1
      refine .inr ⟨go, by rw [rz.length]; exact big hcm.2, fun x H3 y => ?_⟩
      obtain ⟨sm, rx⟩ := yl x H3 y
      obtain ⟨R3, x3⟩ := R2c.grow sm
      obtain ⟨R3o, _⟩ := R2.grow sm
      refine p.run K R3 rx e3 fun σ3 R3' => ?_
      refine ⟨Γ, μ2, env3, S2, b, S4, hK, R3', e4, fun μ4 H4 x4 R4 => ?_⟩
      dsimp only at el
      by_cases hb : b = true
      · rw [if_pos hb] at el ⊢
        obtain ⟨⟨d5, S5⟩, e5, el⟩ := bind_some el
        refine ⟨Γ, μ4, env3, S4, d5, S5, hK, R4, e5, fun v μ5 H5 x5 R5 r5 => ?_⟩
        exact ⟨ds.length - (i + 1), by omega, μ5, S5, dzs ++ [d5], rfl, hlt, x2.trans (x3.trans (x4.trans x5)), R3o.back (x4.trans x5) R5, ((rz.ext (x3.trans (x4.trans x5)))).append (.cons r5 .nil), el⟩
      · rw [if_neg hb] at el ⊢
        exact ⟨ds.length - (i + 1), by omega, μ4, S4, dzs, rfl, hlt, x2.trans (x3.trans x4), R3o.back x4 R4, rz.ext (x3.trans x4), el⟩
    · rw [if_neg hcm] at el; cases el
  · have hi' : i = ds.length := by omega
    subst hi'
    rw [List.drop_length] at el
    unfold cloop at el
    by_cases hcm : calm w S2 ∧ dzs.length ≤ 1000000
    · rw [if_pos hcm] at el
      cases el
      exact .inl ⟨ok.stop μ2 H2 σ env _ x2 R2 hcm.1, fun p hp => q zs μ2 H2 (x1.trans x2) R2 rz p hp⟩
    · rw [if_neg hcm] at el; cases el

structure JC (X : Cx) (N2 : List Str) (scope : Scope) (tg : Expr) (ifs : List Expr) (elt : Expr) (p : Pat) (t : TSem) (f : ESem) : Prop where
  all : ∀ (cl : List (Str × Addr)) (C : Addr) (s : Shared) (H : Hp) (ex : List Addr), JG (compCx X N2 scope cl C s H ex) tg p ∧ JTs (compCx X N2 scope cl C s H ex) ifs t ∧ JE (compCx X N2 scope cl C s H ex) elt f
theorem je_compF {elt tg iter : Expr} {ifs : List Expr} {scope : Scope} {pos : Pos} {N2 : List Str} {k : Nat} {caps : List Nat} {it : ISem} {p : Pat} {t : TSem} {f : ESem}
    (hc : X.calm = true) (hS : CompOk X.env.scope X.N N2 k caps scope) (hlow : p.low k = true) (hi : JI X tg iter it) (hb : JC X N2 scope tg ifs elt p t f)
    (hs : ∀ x, foldedSetIterable iter X.env x = pure x := by intro _; rfl) : JE X (.ListComp elt [⟨tg, iter, ifs, 0⟩] scope pos) (eFrz (aComp k caps it p.sem t f)) :=
  ⟨PE.imp (pe_comp hc hS (p.isLow X.K hlow) hi.pi (fun cl C s H ex => let ⟨a, b, c⟩ := hb.all cl C s H ex; ⟨a.pg, b.pt, c.pe⟩) hs) fun σ H Q h => by
    obtain ⟨Γ, μ, env, S, d, S', hK, R, e, q⟩ := h
    obtain ⟨⟨ys, S1⟩, e1, e⟩ := bind_some e
    cases e
    refine wp_comp ⟨Γ, μ, env, S, ys, S1, hK, R, e1, fun xs μ1 H1 x1 R1 r1 z hz => ?_⟩
    obtain ⟨R2, x2⟩ := R1.grow (same_new hz (.lst xs))
    exact q _ μ1 _ (x1.trans x2) R2 (.lst (R1.ok hz true) (R1.dead hz) upd_same (r1.ext x2))⟩
theorem ref_new {Γ : Fr} {μ : Mu} {H : Hp} {p : Addr} {n : Nat} (h : n = μ.length) : VR Γ (μ ++ [some p]) H (.ref p) (.ref n) := by
  subst h
  refine .ref (by rw [List.length_append]; simp) fun a h => ?_
  simp at h
  rw [h]
theorem js_setCompF {elt tg iter : Expr} {ifs : List Expr} {scope : Scope} {pos py spos : Pos} {N2 : List Str} {k i : Nat} {y : Str} {caps : List Nat} {it : ISem} {p : Pat} {t : TSem} {f : ESem}
    (hc : X.calm = true) (hN : X.N.Nodup) (hS : CompOk X.env.scope X.N N2 k caps scope) (hlow : p.low k = true) (hi : JI X tg iter it) (hb : JC X N2 scope tg ifs elt p t f) (hi' : X.N[i]? = some y := by rfl)
    (hx : X.env.scope.names.lookup y = some .local := by rfl) (hsw : swapsWith (.ListComp elt [⟨tg, iter, ifs, 0⟩] scope pos) (some (.Name y py)) spos.line X.env = pure true := by rfl)
    (hs : ∀ x, foldedSetIterable iter X.env x = pure x := by intro _; rfl) : JS X (.Assign [.Name y py] (.ListComp elt [⟨tg, iter, ifs, 0⟩] scope pos) spos) (sSet i (eFrz (aComp k caps it p.sem t f))) :=
  ⟨PS.imp (ps_setC hc hN hi' hS (p.isLow X.K hlow) hi.pi (fun cl C s H ex => let ⟨a, b, c⟩ := hb.all cl C s H ex; ⟨a.pg, b.pt, c.pe⟩) hx hsw hs) fun E σ H h => by
    obtain ⟨Γ, μ, env, S, fl, env', S', hK, R, e, q⟩ := h
    obtain ⟨⟨d, S1⟩, e1, e⟩ := bind_some e
    cases e
    obtain ⟨⟨ys, S2⟩, e2, e1⟩ := bind_some e1
    cases e1
    refine wp_comp ⟨Γ, μ, env, S, ys, _, hK, R, e2, fun xs μ1 H1 x1 R1 r1 z hz => ?_⟩
    obtain ⟨R2, x2⟩ := R1.grow (same_new hz (.lst xs))
    exact q μ1 _ _ (x1.trans x2) (R2.setv i (.lst (R1.ok hz true) (R1.dead hz) upd_same (r1.ext x2)))⟩
theorem js_setCompS {elt tg iter : Expr} {ifs : List Expr} {scope : Scope} {pos py spos : Pos} {N2 : List Str} {k i : Nat} {y : Str} {caps : List Nat} {it : ISem} {p : Pat} {t : TSem} {f : ESem}
    (hc : X.calm = true) (hN : X.N.Nodup) (hS : CompOk X.env.scope X.N N2 k caps scope) (hlow : p.low k = true) (hi : JI X tg iter it) (hb : JC X N2 scope tg ifs elt p t f) (hi' : X.N[i]? = some y := by rfl)
    (hx : X.env.scope.names.lookup y = some .local := by rfl) (hsw : swapsWith (.ListComp elt [⟨tg, iter, ifs, 0⟩] scope pos) (some (.Name y py)) spos.line X.env = pure true := by rfl)
    (hs : ∀ x, foldedSetIterable iter X.env x = pure x := by intro _; rfl) : JS X (.Assign [.Name y py] (.ListComp elt [⟨tg, iter, ifs, 0⟩] scope pos) spos) (sSet i (eSto (aComp k caps it p.sem t f))) :=
  ⟨PS.imp (ps_setC hc hN hi' hS (p.isLow X.K hlow) hi.pi (fun cl C s H ex => let ⟨a, b, c⟩ := hb.all cl C s H ex; ⟨a.pg, b.pt, c.pe⟩) hx hsw hs) fun E σ H h => by
    obtain ⟨Γ, μ, env, S, fl, env', S', hK, R, e, q⟩ := h
    obtain ⟨⟨d, S1⟩, e1, e⟩ := bind_some e
    cases e
    obtain ⟨⟨ys, S2⟩, e2, e1⟩ := bind_some e1
    cases e1
    refine wp_comp ⟨Γ, μ, env, S, ys, _, hK, R, e2, fun xs μ1 H1 x1 R1 r1 z hz => ?_⟩
    obtain ⟨R2, x2⟩ := R1.laid hz r1
    exact q _ _ _ (x1.trans x2) (R2.setv i (ref_new R1.slen))⟩
end

def listOf (S : Store) : D → Option (List D)
  | .lst _ ds => some ds
  | .ref i => (S[i]?).join
  | _ => none
def seqOf (S : Store) : D → Option (List D)
  | .tup ds => some ds
  | .scr ns => some (ns.map .int)
  | d => listOf S d
def idOf (ds : List D) : D → List (Nat × List D)
  | .ref i => [(i, ds)]
  | _ => []
section
variable {Γ : Fr} {μ : Mu} {σ : St} {H : Hp} {env : Env} {S : Store} {v : V} {d : D} {ds : List D}
theorem join_some {α : Type} {a : Option (Option α)} {b : α} (h : a.join = some b) : a = some (some b) := by
  cases a with
  | none => cases h
  | some o => exact congrArg some h
theorem VR.list (R : Rep Γ μ σ H env S) (r : VR Γ μ H v d) (h : listOf S d = some ds) : ∃ a xs, v = .ref a ∧ H a = some (.lst xs) ∧ VRs Γ μ H xs ds := by
  cases r with
  | lst o n hb rs => cases h; exact ⟨_, _, rfl, hb, rs⟩
  | @ref i v hi f =>
    obtain ⟨a, xs, h1, h2, h3⟩ := R.sto i ds (join_some h)
    exact ⟨a, xs, f a h1, h2, h3⟩
  | _ => cases h
theorem VR.seq (hK : Γ.K = K) (R : Rep Γ μ σ H env S) (r : VR Γ μ H v d) (h : seqOf S d = some ds) : ∃ a xs, v = .ref a ∧ (SqL K H a xs ∨ SqT K H a xs) ∧ VRs Γ μ H xs ds := by
  subst hK
  cases d with
  | tup es => cases r with | tup hb rs => cases h; exact ⟨_, _, rfl, .inr (SqT.of hb), rs⟩
  | scr ns =>
    cases h
    cases r with
    | scrK hk => exact ⟨_, _, rfl, .inl (hk H), VRs.ints ns⟩
    | scrR n hb => exact ⟨_, _, rfl, .inl (.inl (.inr ⟨_, hb⟩)), VRs.ints ns⟩
  | lst m es => obtain ⟨a, xs, e1, e2, e3⟩ := VR.list R r h; exact ⟨a, xs, e1, .inl (SqL.of e2), e3⟩
  | ref i => obtain ⟨a, xs, e1, e2, e3⟩ := VR.list R r h; exact ⟨a, xs, e1, .inl (SqL.of e2), e3⟩
  | _ => cases h
end

def iSeq (a : ESem) : ISem := fun env S => (a env S).bind fun p => (seqOf p.2 p.1).map fun ds => ((ds, idOf ds p.1), p.2)
section
variable {X : Cx} {tg : Expr}
def tSeqI (K : PySem.W.Frag) (tl : TE) : TI := fun σ H R => tl σ H fun x H1 => ∃ a, x = .ref a ∧ (((∃ xs, SqL K H1 a xs) ∧ R (Itl K a) H1) ∨ ((∃ xs, SqT K H1 a xs) ∧ R (Itt K a) H1))
theorem pi_seq {l : Expr} {tl : TE} (hl : PE X l tl) : PI X tg l (tSeqI X.K tl) := by
  intro pins s σ H R I h
  refine thn (hl pins s σ H _ I h) fun v s1 ⟨x, H1, I1, r1, q1⟩ => ?_
  obtain ⟨a, e, ⟨⟨xs, hq⟩, q⟩ | ⟨⟨xs, hq⟩, q⟩⟩ := q1
  · subst e
    cases r1
    obtain ⟨its, rv, p, hz⟩ := I1.list hq
    refine wpAny_pyIter_list p.isList ?_
    refine ⟨s1.heap.objs.size, [s1.heap.objs.size], _, _, H1, rfl, I1.kept (t' := s1.toks) fun b o e => Heap.get?_push_of_some _ e, turn_list a _, ⟨_, Heap.get?_push_size _ rfl, rfl, rfl⟩, fun b hb => ?_, q⟩
    have e : b = s1.heap.objs.size := by simpa using hb
    subst e
    exact I1.fpOk (Nat.le_refl _) (I1.hok.fresh (Nat.le_refl _))
  · subst e
    cases r1
    obtain ⟨its, rv, p, hz⟩ := I1.tuple hq
    refine wpAny_pyIter_tuple (show s1.heap.IsTuple a its.toArray from p) ?_
    refine ⟨s1.heap.objs.size, [s1.heap.objs.size], _, _, H1, rfl, I1.kept (t' := s1.toks) fun b o e => Heap.get?_push_of_some _ e, turn_tuple a _, ⟨_, Heap.get?_push_size _ rfl, rfl, rfl⟩, fun b hb => ?_, q⟩
    have e : b = s1.heap.objs.size := by simpa using hb
    subst e
    exact I1.fpOk (Nat.le_refl _) (I1.hok.fresh (Nat.le_refl _))
theorem seq_later {d : D} {ds : List D} {S S' : Store} (h : seqOf S d = some ds) (c : calm (idOf ds d) S') : seqOf S' d = some ds := by
  cases d with
  | ref i =>
    have c' : S'[i]? = some (some ds) := c (i, ds) (List.mem_singleton.mpr rfl)
    show (S'[i]?).join = some ds
    rw [c']; rfl
  | _ => exact h
theorem VR.seqL {K : PySem.W.Frag} {Γ : Fr} {μ : Mu} {σ : St} {H : Hp} {env : Env} {S : Store} {v : V} {d : D} {ds : List D} (hK : Γ.K = K) (R : Rep Γ μ σ H env S) (r : VR Γ μ H v d) (h : seqOf S d = some ds) : (∃ es, d = .tup es) ∨ ∃ a xs, v = .ref a ∧ SqL K H a xs ∧ VRs Γ μ H xs ds := by
  subst hK
  cases d with
  | tup es => exact .inl ⟨es, rfl⟩
  | scr ns =>
    cases h
    cases r with
    | scrK hk => exact .inr ⟨_, _, rfl, hk H, VRs.ints ns⟩
    | scrR n hb => exact .inr ⟨_, _, rfl, .inl (.inr ⟨_, hb⟩), VRs.ints ns⟩
  | lst m es => obtain ⟨a, xs, e1, e2, e3⟩ := VR.list R r h; exact .inr ⟨a, xs, e1, SqL.of e2, e3⟩
  | ref i => obtain ⟨a, xs, e1, e2, e3⟩ := VR.list R r h; exact .inr ⟨a, xs, e1, SqL.of e2, e3⟩
  | _ => cases h
theorem it_list {Γ : Fr} {μ : Mu} {H : Hp} {a : Addr} {ds : List D} {K : PySem.W.Frag} {w : List (Nat × List D)} (hr : ∀ μ' H' σ' env' S', Ext μ H μ' H' → Rep Γ μ' σ' H' env' S' → calm w S' → ∃ xs, SqL K H' a xs ∧ VRs Γ μ' H' xs ds) : ItOk Γ μ H (Itl K a) ds w := by
  refine ⟨fun i d μ' H' σ' env' S' hi x R c => ?_, fun μ' H' σ' env' S' x R c => ?_⟩
  · obtain ⟨xs, h1, h2⟩ := hr μ' H' σ' env' S' x R c
    obtain ⟨y, e1, e2⟩ := h2.get hi
    refine ⟨⟨xs, y, h1, e1⟩, fun z H'' yl => ?_⟩
    obtain ⟨e, f⟩ := yl
    subst e
    have := f xs h1
    rw [e1] at this; cases this
    exact ⟨Same.refl _, e2⟩
  · obtain ⟨xs, h1, h2⟩ := hr μ' H' σ' env' S' x R c
    exact ⟨xs, h1, by rw [h2.length]; exact Nat.le_refl _⟩
theorem it_tup {Γ : Fr} {μ : Mu} {H : Hp} {a : Addr} {ds : List D} {K : PySem.W.Frag} {w : List (Nat × List D)} (hr : ∀ μ' H' σ' env' S', Ext μ H μ' H' → Rep Γ μ' σ' H' env' S' → calm w S' → ∃ xs, SqT K H' a xs ∧ VRs Γ μ' H' xs ds) : ItOk Γ μ H (Itt K a) ds w := by
  refine ⟨fun i d μ' H' σ' env' S' hi x R c => ?_, fun μ' H' σ' env' S' x R c => ?_⟩
  · obtain ⟨xs, h1, h2⟩ := hr μ' H' σ' env' S' x R c
    obtain ⟨y, e1, e2⟩ := h2.get hi
    refine ⟨⟨xs, y, h1, e1⟩, fun z H'' yl => ?_⟩
    obtain ⟨e, f⟩ := yl
    subst e
    have := f xs h1
    rw [e1] at this; cases this
    exact ⟨Same.refl _, e2⟩
  · obtain ⟨xs, h1, h2⟩ := hr μ' H' σ' env' S' x R c
    exact ⟨xs, h1, by rw [h2.length]; exact Nat.le_refl _⟩
theorem ji_seq {l : Expr} {f : ESem} (hl : JE X l f) : JI X tg l (iSeq f) := ⟨PI.imp (pi_seq hl.pe) fun σ H Q h => by
  obtain ⟨Γ, μ, env, S, ds, w, S', hK, R, e, q⟩ := h
  obtain ⟨⟨d, S1⟩, e1, e⟩ := bind_some e
  obtain ⟨ds', e2, e⟩ := map_some e
  cases e
  refine ⟨Γ, μ, env, S, d, S1, hK, R, e1, fun v μ1 H1 x1 R1 r1 => ?_⟩
  rcases VR.seqL hK R1 r1 e2 with ⟨es, rfl⟩ | ⟨a, xs, rfl, hq, rs⟩
  · cases r1 with
    | @tup a xs _ hb rs =>
      refine ⟨a, rfl, .inr ⟨⟨xs, SqT.of hb⟩, q _ μ1 H1 x1 R1 (it_tup fun μ' H' σ' env' S' x' R' c => ?_)⟩⟩
      have e2' : es = ds := Option.some.inj e2
      subst e2'
      exact ⟨xs, SqT.of (x'.tups _ _ hb), rs.ext x'⟩
  · by_cases ht : ∃ es, d = .tup es
    · obtain ⟨es, rfl⟩ := ht
      cases r1 with
      | @tup b ys _ hb rs' =>
        refine ⟨a, rfl, .inr ⟨⟨ys, SqT.of hb⟩, q _ μ1 H1 x1 R1 (it_tup fun μ' H' σ' env' S' x' R' c => ?_)⟩⟩
        have e2' : es = ds := Option.some.inj e2
        subst e2'
        exact ⟨ys, SqT.of (x'.tups _ _ hb), rs'.ext x'⟩
    · refine ⟨a, rfl, .inl ⟨⟨xs, hq⟩, q _ μ1 H1 x1 R1 (it_list fun μ' H' σ' env' S' x' R' c => ?_)⟩⟩
      rcases VR.seqL hK R' (r1.ext x') (seq_later e2 c) with z | ⟨b, ys, e, h1, h2⟩
      · exact absurd z ht
      · cases e
        exact ⟨ys, h1, h2⟩⟩
def upD (lo : Int) (n : Nat) : List D := (List.range n).map fun (i : Nat) => .int (lo + i)
theorem it_range {Γ : Fr} {μ : Mu} {H : Hp} (lo : Int) (n : Nat) : ItOk Γ μ H (Itr lo n) (upD lo n) [] := by
  have len : (upD lo n).length = n := by unfold upD; rw [List.length_map, List.length_range]
  refine ⟨fun i d μ' H' σ' env' S' hi x R c => ?_, fun μ' H' σ' env' S' x R c => ?_⟩
  · have hi' : i < n := by rw [← len]; exact (List.getElem?_eq_some_iff.mp hi).1
    refine ⟨hi', fun y H'' yl => ?_⟩
    obtain ⟨e1, e2⟩ := yl
    subst e1 e2
    unfold upD at hi
    rw [List.getElem?_map, List.getElem?_range hi'] at hi
    cases hi
    exact ⟨Same.refl _, .int _⟩
  · show n ≤ (upD lo n).length
    rw [len]; exact Nat.le_refl _
def r62 (j : Int) : Prop := -(2 ^ 62) ≤ j ∧ j < 2 ^ 62
instance (j : Int) : Decidable (r62 j) := by unfold r62; infer_instance
def iRange1 (a : ASem) : ISem := fun env S => (a env S).bind fun p => match p.1 with | [.int j] => if r62 j then some ((upD 0 j.toNat, []), p.2) else none | _ => none
theorem VRs.one {Γ : Fr} {μ : Mu} {H : Hp} {vs : List V} {d : D} (h : VRs Γ μ H vs [d]) : ∃ v, vs = [v] ∧ VR Γ μ H v d := by
  cases h with | cons r t => cases t; exact ⟨_, rfl, r⟩
theorem VRs.two {Γ : Fr} {μ : Mu} {H : Hp} {vs : List V} {d e : D} (h : VRs Γ μ H vs [d, e]) : ∃ v u, vs = [v, u] ∧ VR Γ μ H v d ∧ VR Γ μ H u e := by
  cases h with | cons r t => cases t with | cons r' t => cases t; exact ⟨_, _, rfl, r, r'⟩
theorem ji_range1 {a : Expr} {f : ASem} {p pos : Pos} (hg : Gl X "range") (hm : X.mg "range" = none) (ha : JA X [a] f) (hs : starEach [a] X.env = [(false, eval a X.env)] := by rfl) : JI X tg (.Call (.Name "range" p) [a] [] pos) (iRange1 f) :=
  ⟨PI.imp (pi_range1 hg hm ha.pa hs) fun σ H Q h => by
    obtain ⟨Γ, μ, env, S, ds, w, S', hK, R, e, q⟩ := h
    obtain ⟨⟨d, S1⟩, e1, e⟩ := bind_some e
    refine ⟨Γ, μ, env, S, d, S1, hK, R, e1, fun v μ1 H1 x1 R1 r1 => ?_⟩
    dsimp only at e
    split at e
    · rename_i j
      by_cases hj : r62 j
      · rw [if_pos hj] at e
        cases e
        obtain ⟨v, rfl, r⟩ := r1.one
        cases r
        exact ⟨j, rfl, hj.1, hj.2, q _ μ1 H1 x1 R1 (it_range 0 _)⟩
      · rw [if_neg hj] at e; cases e
    · cases e⟩
end
end VS
end
section
set_option Elab.async false
set_option maxRecDepth 10000
set_option linter.all false
namespace VS
open PySem PySem.Spec L2
section
variable {X : Cx} {tg : Expr}
def zipD : List D → List D → List D
  | x :: xs, y :: ys => .tup [x, y] :: zipD xs ys
  | _, _ => []
theorem zipD_get : ∀ {xs ys : List D} {i : Nat} {d : D}, (zipD xs ys)[i]? = some d → ∃ x y, xs[i]? = some x ∧ ys[i]? = some y ∧ d = .tup [x, y]
  | [], _, _, _, h => by simp [zipD] at h
  | _ :: _, [], _, _, h => by simp [zipD] at h
  | x :: xs, y :: ys, 0, d, h => by simp [zipD] at h; exact ⟨x, y, rfl, rfl, h.symm⟩
  | x :: xs, y :: ys, i + 1, d, h => by
    simp [zipD] at h
    obtain ⟨a, b, h1, h2, h3⟩ := zipD_get h
    exact ⟨a, b, by simpa using h1, by simpa using h2, h3⟩
theorem zipD_len : ∀ (xs ys : List D), ((zipD xs ys).length = xs.length ∧ xs.length ≤ ys.length) ∨ ((zipD xs ys).length < xs.length ∧ (zipD xs ys).length = ys.length)
  | [], _ => .inl ⟨rfl, Nat.zero_le _⟩
  | _ :: _, [] => .inr ⟨by simp [zipD], rfl⟩
  | x :: xs, y :: ys => by
    rcases zipD_len xs ys with ⟨h1, h2⟩ | ⟨h1, h2⟩
    · left; simp [zipD]; omega
    · right; simp [zipD]; omega
def iZipS (a : ASem) : ISem := fun env S => (a env S).bind fun p => match p.1 with
  | [.tup xs, .tup ys] => some ((zipD xs ys, []), p.2)
  | [x, .tup ys] => (listOf p.2 x).bind fun xs => some ((zipD xs ys, idOf xs x), p.2)
  | [x, y] => (listOf p.2 x).bind fun xs => (listOf p.2 y).bind fun ys => some ((zipD xs ys, idOf xs x ++ idOf ys y), p.2)
  | _ => none
theorem list_later {d : D} {ds : List D} {S S' : Store} (h : listOf S d = some ds) (c : calm (idOf ds d) S') : listOf S' d = some ds := by
  cases d with
  | ref i =>
    have c' : S'[i]? = some (some ds) := c (i, ds) (List.mem_singleton.mpr rfl)
    show (S'[i]?).join = some ds
    rw [c']; rfl
  | _ => exact h
theorem it_zip {Γ : Fr} {μ : Mu} {H : Hp} {L M : Bool} {a b : Addr} {xs ys : List D} {w : List (Nat × List D)} (hr : ∀ μ' H' σ' env' S', Ext μ H μ' H' → Rep Γ μ' σ' H' env' S' → calm w S' → ∃ us vs, H' a = some (HB L us) ∧ VRs Γ μ' H' us xs ∧ H' b = some (HB M vs) ∧ VRs Γ μ' H' vs ys) :
    ItOk Γ μ H (Itz L M a b) (zipD xs ys) w := by
  refine ⟨fun i d μ' H' σ' env' S' hi x R c => ?_, fun μ' H' σ' env' S' x R c => ?_⟩
  · obtain ⟨us, vs, h1, h2, h3, h4⟩ := hr μ' H' σ' env' S' x R c
    obtain ⟨p, q, e1, e2, e3⟩ := zipD_get hi
    obtain ⟨u, f1, f2⟩ := h2.get e1
    obtain ⟨v, g1, g2⟩ := h4.get e2
    refine ⟨⟨us, vs, u, v, h1, h3, f1, g1⟩, fun z H'' yl => ?_⟩
    obtain ⟨t, u', v', ht, rfl, rfl, k1, k2⟩ := yl
    have k1' := k1 us h1
    have k2' := k2 vs h3
    rw [f1] at k1'; cases k1'
    rw [g1] at k2'; cases k2'
    subst e3
    have sm := same_new ht (.tup [u, v])
    obtain ⟨_, x2⟩ := R.grow sm
    exact ⟨sm, .tup upd_same (.cons (f2.ext x2) (.cons (g2.ext x2) .nil))⟩
  · obtain ⟨us, vs, h1, h2, h3, h4⟩ := hr μ' H' σ' env' S' x R c
    refine ⟨us, vs, h1, h3, ?_⟩
    rw [h2.length, h4.length]
    rcases zipD_len xs ys with z | z
    · exact .inl z.1
    · exact .inr z
theorem PI.or {e : Expr} {t u : TI} (h : PI X tg e t) (k : PI X tg e u) : PI X tg e (fun σ H R => t σ H R ∨ u σ H R) := fun pins s σ H R I q => q.elim (fun z => h pins s σ H R I z) fun z => k pins s σ H R I z
theorem ji_zip {a b : Expr} {f : ASem} {p pos : Pos} {elts : List Expr} {x1 : Nat} {tpos : Pos} (hg : Gl X "zip") (hm : X.mg "zip" = none) (ha : JA X [a, b] f) (hs : starEach [a, b] X.env = [(false, eval a X.env), (false, eval b X.env)] := by rfl) (hs2 : starEach [b] X.env = [(false, eval b X.env)] := by rfl) :
    JI X (.Tuple elts x1 tpos) (.Call (.Name "zip" p) [a, b] [] pos) (iZipS f) :=
  ⟨PI.imp (PI.or (pi_zip true true (.inl rfl) hg hm ha.pa hs hs2) (PI.or (pi_zip false false (.inl rfl) hg hm ha.pa hs hs2) (pi_zip true false (.inr ⟨rfl, rfl⟩) hg hm ha.pa hs hs2))) fun σ H Q h => by
    obtain ⟨Γ, μ, env, S, ds, w, S', hK, R, e, q⟩ := h
    obtain ⟨⟨d, S1⟩, e1, e⟩ := bind_some e
    dsimp only at e
    split at e
    · rename_i xs ys
      cases e
      refine .inr (.inl ⟨Γ, μ, env, S, _, _, hK, R, e1, fun v μ1 H1 x1 R1 r1 => ?_⟩)
      obtain ⟨u, v, rfl, r, r'⟩ := r1.two
      cases r with
      | @tup a us _ ha ra =>
        cases r' with
        | @tup b vs _ hb rb =>
          exact ⟨a, b, us, vs, rfl, ha, hb, q _ μ1 H1 x1 R1 (it_zip fun μ' H' σ' env' S' x' R' c => ⟨us, vs, x'.tups _ _ ha, ra.ext x', x'.tups _ _ hb, rb.ext x'⟩)⟩
    · rename_i x ys _
      obtain ⟨xs, e2, e⟩ := bind_some e
      cases e
      refine .inr (.inr ⟨Γ, μ, env, S, _, _, hK, R, e1, fun v μ1 H1 x1 R1 r1 => ?_⟩)
      obtain ⟨u, v, rfl, r, r'⟩ := r1.two
      obtain ⟨a, us, rfl, ha, ra⟩ := VR.list R1 r e2
      cases r' with
      | @tup b vs _ hb rb =>
        refine ⟨a, b, us, vs, rfl, ha, hb, q _ μ1 H1 x1 R1 (it_zip fun μ' H' σ' env' S' x' R' c => ?_)⟩
        obtain ⟨a', us', e4, ha', ra'⟩ := VR.list R' (r.ext x') (list_later e2 c)
        cases e4
        exact ⟨us', vs, ha', ra', x'.tups _ _ hb, rb.ext x'⟩
    · rename_i x y _ _
      obtain ⟨xs, e2, e⟩ := bind_some e
      obtain ⟨ys, e3, e⟩ := bind_some e
      cases e
      refine .inl ⟨Γ, μ, env, S, _, _, hK, R, e1, fun v μ1 H1 x1 R1 r1 => ?_⟩
      obtain ⟨u, v, rfl, r, r'⟩ := r1.two
      obtain ⟨a, us, rfl, ha, ra⟩ := VR.list R1 r e2
      obtain ⟨b, vs, rfl, hb, rb⟩ := VR.list R1 r' e3
      refine ⟨a, b, us, vs, rfl, ha, hb, q _ μ1 H1 x1 R1 (it_zip fun μ' H' σ' env' S' x' R' c => ?_)⟩
      obtain ⟨a', us', e4, ha', ra'⟩ := VR.list R' (r.ext x') (list_later e2 fun p hp => c p (List.mem_append_left _ hp))
      obtain ⟨b', vs', e5, hb', rb'⟩ := VR.list R' (r'.ext x') (list_later e3 fun p hp => c p (List.mem_append_right _ hp))
      cases e4
      cases e5
      exact ⟨us', vs', ha', ra', hb', rb'⟩
    · cases e⟩
def SemM (K : PySem.W.Frag) (r : V → List V → Hp → VK → Prop) (g : Store → D → List D → Option (D × Store)) : Prop := ∀ (Γ : Fr) (μ : Mu) (σ : St) (H : Hp) (env : Env) (S : Store) (x : V) (xs : List V) (dx : D) (ds : List D) (d : D) (S' : Store), Γ.K = K → Rep Γ μ σ H env S → VR Γ μ H x dx → VRs Γ μ H xs ds → g S dx ds = some (d, S') →
  ∀ Q : VK, (∀ v μ' H', Ext μ H μ' H' → Rep Γ μ' σ H' env S' → VR Γ μ' H' v d → Q v H') → r x xs H Q
def eMeth (g : Store → D → List D → Option (D × Store)) (o : ESem) (a : ASem) : ESem := fun env S => (o env S).bind fun p => if (listOf p.2 p.1).isSome then (a env p.2).bind fun q => g q.2 p.1 q.1 else none
theorem wp_meth {K : PySem.W.Frag} {r : V → List V → Hp → VK → Prop} {g : Store → D → List D → Option (D × Store)} {o : ESem} {a : ASem} (hs : SemM K r g) {σ : St} {H : Hp} {Q : VK} (h : wpE K (eMeth g o a) σ H Q) : tBM K "list" r (wpE K o) (wpA K a) σ H Q := by
  obtain ⟨Γ, μ, env, S, d, S', hK, R, e, q⟩ := h
  obtain ⟨⟨x, S1⟩, e1, e⟩ := bind_some e
  refine ⟨Γ, μ, env, S, x, S1, hK, R, e1, fun v1 μ1 H1 x1 R1 r1 => ?_⟩
  dsimp only at e
  by_cases hl : (listOf S1 x).isSome = true
  · rw [if_pos hl] at e
    obtain ⟨⟨ds, S2⟩, e2, e⟩ := bind_some e
    obtain ⟨xs, hx⟩ := Option.isSome_iff_exists.mp hl
    obtain ⟨b, us, rfl, hb, rb⟩ := VR.list R1 r1 hx
    refine ⟨.inl ⟨rfl, us, SqL.of hb⟩, Γ, μ1, env, S1, ds, S2, hK, R1, e2, fun vs μ2 H2 x2 R2 r2 => ?_⟩
    exact hs Γ μ2 σ H2 env S2 _ vs x ds d S' hK R2 (r1.ext x2) r2 e Q fun v μ' H' x' R' rv => q v μ' H' (x1.trans (x2.trans x')) R' rv
  · rw [if_neg hl] at e; cases e
variable {o e : Expr} {es : List Expr} {fo : ESem} {fa : ASem} {name : Str} {apos cpos : Pos} {id : String} {r : V → List V → Hp → VK → Prop} {g : Store → D → List D → Option (D × Store)}
theorem je_meth (pa : PlainAttrs "list") (slot : Slot "list" name id) (hty : typeOf (.builtin id) = pure (.type "method_descriptor")) (hm : MtR X id r) (hsm : SemM X.K r g) (ho : JE X o fo) (ha : JA X (e :: es) fa)
    (hbase : attributeBase o name X.env (eval o X.env) = eval o X.env := by rfl)
    (hfew : ((backTo cpos (starEach (e :: es) X.env)).all (fun x => !x.1) && (backToKw cpos (keywordEach [] X.env)).all (fun x => x.1.isSome)
      && decide ((e :: es).length + ([] : List Keyword).length + (if ([] : List Keyword).isEmpty then 0 else 1) < 30)) = true := by rfl)
    (hline : (apos.endLine == cpos.line) = true := by rfl) (hs : starEach (e :: es) X.env = (false, eval e X.env) :: starEach es X.env := by rfl) (hplain : (backTo cpos (starEach es X.env)).any (·.1) = false := by rfl) :
    JE X (.Call (.Attribute o name apos) (e :: es) [] cpos) (eMeth g fo fa) :=
  ⟨PE.imp (pe_bm pa slot hty hm ho.pe ha.pa hbase hfew hline hs hplain) fun _ _ _ h => wp_meth hsm h⟩
theorem VR.refI {Γ : Fr} {μ : Mu} {σ : St} {H : Hp} {env : Env} {S : Store} {v : V} {i : Nat} {ds : List D} (R : Rep Γ μ σ H env S) (r : VR Γ μ H v (.ref i)) (h : S[i]? = some (some ds)) : ∃ a xs, v = .ref a ∧ μ[i]? = some (some a) ∧ H a = some (.lst xs) ∧ VRs Γ μ H xs ds := by
  cases r with
  | ref hi f =>
    obtain ⟨a, xs, h1, h2, h3⟩ := R.sto i ds h
    exact ⟨a, xs, f a h1, h1, h2, h3⟩
def mAppend (S : Store) : D → List D → Option (D × Store)
  | .ref i, [d] => match S[i]? with
    | some (some ds) => if ds.length < 1000000 then some (.non, S.set i (some (ds ++ [d]))) else none
    | _ => none
  | _, _ => none
theorem sm_append {K : PySem.W.Frag} : SemM K rAppend mAppend := by
  intro Γ μ σ H env S x xs dx ds d S' hK R rx rs e Q q
  unfold mAppend at e
  split at e
  · rename_i i d1
    split at e
    · rename_i es he
      by_cases hl : es.length < 1000000
      · rw [if_pos hl] at e
        cases e
        obtain ⟨a, us, rfl, h1, h2, h3⟩ := VR.refI R rx he
        obtain ⟨y, rfl, ry⟩ := rs.one
        obtain ⟨R2, x2⟩ := R.put h1 (h3.append (.cons ry .nil))
        exact ⟨a, us, y, rfl, rfl, h2, by rw [h3.length]; exact big (Nat.le_of_lt hl), q _ μ _ x2 R2 .non⟩
      · rw [if_neg hl] at e; cases e
    · cases e
  · cases e
def mExtend (S : Store) : D → List D → Option (D × Store)
  | .ref i, [y] => match S[i]?, listOf S y with
    | some (some ds), some es => if ds.length + es.length ≤ 1000000 then some (.non, S.set i (some (ds ++ es))) else none
    | _, _ => none
  | _, _ => none
theorem sm_extend {K : PySem.W.Frag} : SemM K rExtend mExtend := by
  intro Γ μ σ H env S x xs dx ds d S' hK R rx rs e Q q
  unfold mExtend at e
  split at e
  · rename_i i y
    split at e
    · rename_i es gs he hg
      by_cases hl : es.length + gs.length ≤ 1000000
      · rw [if_pos hl] at e
        cases e
        obtain ⟨a, us, rfl, h1, h2, h3⟩ := VR.refI R rx he
        obtain ⟨y, rfl, ry⟩ := rs.one
        obtain ⟨b, vs, rfl, hb, rb⟩ := VR.list R ry hg
        obtain ⟨R2, x2⟩ := R.put h1 (h3.append rb)
        exact ⟨a, b, us, vs, rfl, rfl, h2, hb, by rw [h3.length, rb.length]; exact Nat.le_of_lt (big hl), q _ μ _ x2 R2 .non⟩
      · rw [if_neg hl] at e; cases e
    · cases e
  · cases e
def mPopAt (S : Store) : D → List D → Option (D × Store)
  | .ref i, [.int k] => match S[i]? with
    | some (some ds) => if -(2 ^ 63) ≤ k ∧ k < 2 ^ 63 then (PySem.seqIndex? k ds.length).bind fun j => (ds[j]?).bind fun d => some (d, S.set i (some (ds.eraseIdx j))) else none
    | _ => none
  | _, _ => none
theorem sm_popAt {K : PySem.W.Frag} : SemM K rPopAt mPopAt := by
  intro Γ μ σ H env S x xs dx ds d S' hK R rx rs e Q q
  unfold mPopAt at e
  split at e
  · rename_i i k
    split at e
    · rename_i es he
      by_cases hl : -(2 ^ 63) ≤ k ∧ k < 2 ^ 63
      · rw [if_pos hl] at e
        obtain ⟨j, e2, e⟩ := bind_some e
        obtain ⟨d', e3, e⟩ := bind_some e
        cases e
        obtain ⟨a, us, rfl, h1, h2, h3⟩ := VR.refI R rx he
        obtain ⟨y, rfl, ry⟩ := rs.one
        cases ry
        obtain ⟨u, f1, f2⟩ := h3.get e3
        obtain ⟨R2, x2⟩ := R.put h1 (h3.eraseIdx j)
        exact ⟨a, us, k, j, u, rfl, rfl, h2, hl.1, hl.2, by rw [h3.length]; exact e2, f1, q _ μ _ x2 R2 (f2.ext x2)⟩
      · rw [if_neg hl] at e; cases e
    · cases e
  · cases e
def sSetIx (v o i : ESem) : SSem := fun env S => (v env S).bind fun p => (o env p.2).bind fun q => (i env q.2).bind fun r => match q.1, r.1 with
  | .ref j, .int k => (match r.2[j]? with
    | some (some ds) => (ixN ds.length k).bind fun n => some (.nx, env, r.2.set j (some (ds.set n p.1)))
    | _ => none)
  | _, _ => none
theorem js_setIx {a i : Expr} {fv fi : ESem} {pos tpos : Pos} (he : JE X a fv) (ho : JE X o fo) (hi : JE X i fi)
    (ha : ∀ v, assign (.Subscript o i tpos) X.env v = (do
      let ov ← holding [v] (eval o X.env)
      let iv ← holding [v, ov] (eval i X.env)
      standAt tpos
      holding [v, ov, iv] (setItem ov iv v)
      release [v, ov, iv] []) := by intro _; rfl)
    (hs : swapsWithSole [.Subscript o i tpos] a pos.line X.env = pure false := by rfl) (hw : swappedStores [.Subscript o i tpos] a X.env = pure none := by rfl)
    (h1 : (assignEach [.Subscript o i tpos] X.env).map (·.2) = [assign (.Subscript o i tpos) X.env] := by rfl) : JS X (.Assign [.Subscript o i tpos] a pos) (sSetIx fv fo fi) :=
  ⟨PS.imp (ps_asg he.pe (pg_sub ho.pe hi.pe set_list ha) hs hw h1) fun E σ H h => by
    obtain ⟨Γ, μ, env, S, fl, env', S', hK, R, e, q⟩ := h
    obtain ⟨⟨x, S1⟩, e1, e⟩ := bind_some e
    obtain ⟨⟨y, S2⟩, e2, e⟩ := bind_some e
    obtain ⟨⟨z, S3⟩, e3, e⟩ := bind_some e
    refine ⟨Γ, μ, env, S, x, S1, hK, R, e1, fun v1 μ1 H1 x1 R1 r1 => ?_⟩
    refine ⟨Γ, μ1, env, S1, y, S2, hK, R1, e2, fun v2 μ2 H2 x2 R2 r2 => ?_⟩
    refine ⟨Γ, μ2, env, S2, z, S3, hK, R2, e3, fun v3 μ3 H3 x3 R3 r3 => ?_⟩
    dsimp only at e
    split at e
    · rename_i j k
      split at e
      · rename_i ds hd
        obtain ⟨n, e4, e⟩ := bind_some e
        cases e
        obtain ⟨b, us, rfl, g1, g2, g3⟩ := VR.refI R3 (r2.ext x3) hd
        cases r3
        have r1' := r1.ext (x2.trans x3)
        obtain ⟨R4, x4⟩ := R3.put g1 (g3.set r1' n)
        exact ⟨b, us, _, n, rfl, rfl, g2, by rw [g3.length]; exact e4, q μ3 σ _ (x1.trans (x2.trans (x3.trans x4))) R4⟩
      · cases e
    · cases e⟩
end
end VS
end
section
set_option Elab.async false
set_option maxRecDepth 10000
set_option linter.all false
namespace VS
open PySem PySem.Spec L2
mutual
def pureD : D → Bool
  | .ref _ => false
  | .tup ds => pureL ds
  | .lst _ ds => pureL ds
  | _ => true
def pureL : List D → Bool
  | [] => true
  | d :: r => pureD d && pureL r
end
mutual
def flatD : D → Bool
  | .ref _ => false
  | .lst _ _ => false
  | .scr _ => false
  | .emp => false
  | .tup ds => flatL ds
  | _ => true
def flatL : List D → Bool
  | [] => true
  | d :: r => flatD d && flatL r
end
mutual
def newD : D → Bool
  | .ref _ => false
  | .lst m ds => m && newL ds
  | .scr _ => false
  | .emp => false
  | .tup ds => newL ds
  | _ => true
def newL : List D → Bool
  | [] => true
  | d :: r => newD d && newL r
end
mutual
def den (k : Nat) (S : Store) : D → Option D
  | .tup ds => (denL k S ds).map .tup
  | .lst m ds => (denL k S ds).map (.lst m)
  | .ref i => if i < k then none else match S[i]? with | some (some ds) => if pureL ds = true then some (.lst true ds) else none | _ => none
  | .non => some .non
  | .bl b => some (.bl b)
  | .int i => some (.int i)
  | .str x => some (.str x)
  | .ty n => some (.ty n)
  | .scr ns => some (.scr ns)
  | .emp => some .emp
def denL (k : Nat) (S : Store) : List D → Option (List D)
  | [] => some []
  | d :: r => (den k S d).bind fun x => (denL k S r).bind fun xs => some (x :: xs)
end
mutual
def age : D → D
  | .tup ds => .tup (ageL ds)
  | .lst _ ds => .lst false (ageL ds)
  | .ref i => .ref i
  | .non => .non
  | .bl b => .bl b
  | .int i => .int i
  | .str x => .str x
  | .ty n => .ty n
  | .scr ns => .scr ns
  | .emp => .emp
def ageL : List D → List D
  | [] => []
  | d :: r => age d :: ageL r
end
mutual
theorem flat_pure : ∀ {d : D}, flatD d = true → pureD d = true
  | .ref _, h => by simp [flatD] at h
  | .lst _ _, h => by simp [flatD] at h
  | .scr _, h => by simp [flatD] at h
  | .emp, h => by simp [flatD] at h
  | .tup ds, h => by rw [flatD] at h; rw [pureD]; exact flatL_pure h
  | .non, _ => rfl
  | .bl _, _ => rfl
  | .int _, _ => rfl
  | .str _, _ => rfl
  | .ty _, _ => rfl
theorem flatL_pure : ∀ {ds : List D}, flatL ds = true → pureL ds = true
  | [], _ => rfl
  | d :: r, h => by
    rw [flatL, Bool.and_eq_true] at h
    rw [pureL, flat_pure h.1, flatL_pure h.2]; rfl
end
mutual
theorem flat_new : ∀ {d : D}, flatD d = true → newD d = true
  | .ref _, h => by simp [flatD] at h
  | .lst _ _, h => by simp [flatD] at h
  | .scr _, h => by simp [flatD] at h
  | .emp, h => by simp [flatD] at h
  | .tup ds, h => by rw [flatD] at h; rw [newD]; exact flatL_new h
  | .non, _ => rfl
  | .bl _, _ => rfl
  | .int _, _ => rfl
  | .str _, _ => rfl
  | .ty _, _ => rfl
theorem flatL_new : ∀ {ds : List D}, flatL ds = true → newL ds = true
  | [], _ => rfl
  | d :: r, h => by
    rw [flatL, Bool.and_eq_true] at h
    rw [newL, flat_new h.1, flatL_new h.2]; rfl
end
mutual
theorem pure_den (k : Nat) (S : Store) : ∀ {d : D}, pureD d = true → den k S d = some d
  | .ref _, h => by simp [pureD] at h
  | .lst m ds, h => by rw [pureD] at h; rw [den, pure_denL k S h]; rfl
  | .tup ds, h => by rw [pureD] at h; rw [den, pure_denL k S h]; rfl
  | .non, _ => by rw [den]
  | .bl _, _ => by rw [den]
  | .int _, _ => by rw [den]
  | .str _, _ => by rw [den]
  | .ty _, _ => by rw [den]
  | .scr _, _ => by rw [den]
  | .emp, _ => by rw [den]
theorem pure_denL (k : Nat) (S : Store) : ∀ {ds : List D}, pureL ds = true → denL k S ds = some ds
  | [], _ => by rw [denL]
  | d :: r, h => by
    rw [pureL, Bool.and_eq_true] at h
    rw [denL, pure_den k S h.1, pure_denL k S h.2]; rfl
end
mutual
theorem flat_age : ∀ {d : D}, flatD d = true → age d = d
  | .ref _, h => by simp [flatD] at h
  | .lst _ _, h => by simp [flatD] at h
  | .scr _, h => by simp [flatD] at h
  | .emp, h => by simp [flatD] at h
  | .tup ds, h => by rw [flatD] at h; rw [age, flatL_age h]
  | .non, _ => by rw [age]
  | .bl _, _ => by rw [age]
  | .int _, _ => by rw [age]
  | .str _, _ => by rw [age]
  | .ty _, _ => by rw [age]
theorem flatL_age : ∀ {ds : List D}, flatL ds = true → ageL ds = ds
  | [], _ => by rw [ageL]
  | d :: r, h => by
    rw [flatL, Bool.and_eq_true] at h
    rw [ageL, flat_age h.1, flatL_age h.2]
end

section
variable {Γ Γ' : Fr} {μ μ' : Mu} {H : Hp}
mutual
theorem VR.age (hK : Γ'.K = Γ.K) (hN : ∀ a, ¬ Live μ a → Γ.N a ∨ Γ.H0 a = none → Γ'.N a) (hl : ∀ a o, H a = some o → ¬ Live μ a → ¬ Live μ' a) : ∀ {v : V} {d : D}, pureD d = true → VR Γ μ H v d → VR Γ' μ' H v (VS.age d)
  | _, _, _, .non => by rw [VS.age]; exact .non
  | _, _, _, .bl b => by rw [VS.age]; exact .bl b
  | _, _, _, .int i => by rw [VS.age]; exact .int i
  | _, _, _, .str x => by rw [VS.age]; exact .str x
  | _, _, _, .ty n => by rw [VS.age]; exact .ty n
  | _, _, h, .tup hb t => by rw [pureD] at h; rw [VS.age]; exact .tup hb (VRs.age hK hN hl h t)
  | _, _, h, .lst o n hb t => by rw [pureD] at h; rw [VS.age]; exact .lst ⟨fun z => (by cases z), .inl (hN _ n o.2)⟩ (hl _ _ hb n) hb (VRs.age hK hN hl h t)
  | _, _, h, .ref _ _ => by simp [pureD] at h
  | _, _, _, .scrK k => by rw [VS.age]; exact .scrK (by rw [hK]; exact k)
  | _, _, _, .scrR n hb => by rw [VS.age]; exact .scrR (hl _ _ hb n) hb
  | _, _, _, .emp n hb => by rw [VS.age]; exact .emp (hl _ _ hb n) hb
theorem VRs.age (hK : Γ'.K = Γ.K) (hN : ∀ a, ¬ Live μ a → Γ.N a ∨ Γ.H0 a = none → Γ'.N a) (hl : ∀ a o, H a = some o → ¬ Live μ a → ¬ Live μ' a) : ∀ {v : List V} {d : List D}, pureL d = true → VRs Γ μ H v d → VRs Γ' μ' H v (ageL d)
  | _, _, _, .nil => by rw [ageL]; exact .nil
  | _, _, h, .cons r t => by
    rw [pureL, Bool.and_eq_true] at h
    rw [ageL]; exact .cons (VR.age hK hN hl h.1 r) (VRs.age hK hN hl h.2 t)
end
mutual
theorem VR.pure (hK : Γ'.K = Γ.K) (hN : ∀ m a xs, ¬ Live μ a → Γ.Ok m a → H a = some (.lst xs) → Γ'.Ok m a ∧ ¬ Live μ' a) (ho : ∀ a o, H a = some o → ¬ Live μ a → (∀ xs, o ≠ .lst xs) → ¬ Live μ' a) : ∀ {v : V} {d : D}, pureD d = true → VR Γ μ H v d → VR Γ' μ' H v d
  | _, _, _, .non => .non
  | _, _, _, .bl b => .bl b
  | _, _, _, .int i => .int i
  | _, _, _, .str x => .str x
  | _, _, _, .ty n => .ty n
  | _, _, h, .tup hb t => by rw [pureD] at h; exact .tup hb (VRs.pure hK hN ho h t)
  | _, _, h, .lst o n hb t => by rw [pureD] at h; exact .lst (hN _ _ _ n o hb).1 (hN _ _ _ n o hb).2 hb (VRs.pure hK hN ho h t)
  | _, _, h, .ref _ _ => by simp [pureD] at h
  | _, _, _, .scrK k => .scrK (by rw [hK]; exact k)
  | _, _, _, .scrR n hb => .scrR (ho _ _ hb n fun _ z => by cases z) hb
  | _, _, _, .emp n hb => .emp (ho _ _ hb n fun _ z => by cases z) hb
theorem VRs.pure (hK : Γ'.K = Γ.K) (hN : ∀ m a xs, ¬ Live μ a → Γ.Ok m a → H a = some (.lst xs) → Γ'.Ok m a ∧ ¬ Live μ' a) (ho : ∀ a o, H a = some o → ¬ Live μ a → (∀ xs, o ≠ .lst xs) → ¬ Live μ' a) : ∀ {v : List V} {d : List D}, pureL d = true → VRs Γ μ H v d → VRs Γ' μ' H v d
  | _, _, _, .nil => .nil
  | _, _, h, .cons r t => by
    rw [pureL, Bool.and_eq_true] at h
    exact .cons (VR.pure hK hN ho h.1 r) (VRs.pure hK hN ho h.2 t)
end
mutual
theorem VR.den {σ : St} {env : Env} {S S0 : Store} {k : Nat} (R : Rep Γ μ σ H env S) (hK : Γ'.K = Γ.K) (h0 : ∀ (i : Nat) (ds : List D) (a : Addr), k ≤ i → S0[i]? = some (some ds) → S[i]? = some (some ds) ∧ (μ[i]? = some (some a) → ¬ Live μ' a ∧ Γ'.Ok true a))
    (hN : ∀ m a, ¬ Live μ a → Γ.Ok m a → Γ'.Ok m a) (hl : ∀ a o, H a = some o → ¬ Live μ a → ¬ Live μ' a) : ∀ {v : V} {d e : D}, VR Γ μ H v d → VS.den k S0 d = some e → VR Γ' μ' H v e
  | _, _, _, .non, h => by rw [VS.den] at h; cases h; exact .non
  | _, _, _, .bl b, h => by rw [VS.den] at h; cases h; exact .bl b
  | _, _, _, .int i, h => by rw [VS.den] at h; cases h; exact .int i
  | _, _, _, .str x, h => by rw [VS.den] at h; cases h; exact .str x
  | _, _, _, .ty n, h => by rw [VS.den] at h; cases h; exact .ty n
  | _, _, _, .tup hb t, h => by
    rw [VS.den] at h
    obtain ⟨es, e1, e2⟩ := map_some h
    subst e2
    exact .tup hb (VRs.den R hK h0 hN hl t e1)
  | _, _, _, .lst o n hb t, h => by
    rw [VS.den] at h
    obtain ⟨es, e1, e2⟩ := map_some h
    subst e2
    exact .lst (hN _ _ n o) (hl _ _ hb n) hb (VRs.den R hK h0 hN hl t e1)
  | _, .ref i, _, .ref hi f, h => by
    rw [VS.den] at h
    by_cases hk : i < k
    · rw [if_pos hk] at h; cases h
    · rw [if_neg hk] at h
      split at h
      · rename_i ds hd
        by_cases hp : pureL ds = true
        · rw [if_pos hp] at h
          cases h
          have hS := (h0 i ds 0 (by omega) hd).1
          obtain ⟨a, xs, h1, h2, h3⟩ := R.sto i ds hS
          have hv := f a h1
          subst hv
          obtain ⟨z1, z2⟩ := (h0 i ds a (by omega) hd).2 h1
          exact .lst z2 z1 h2 (VRs.pure hK (fun m b ys n o hb => ⟨hN m b n o, hl b _ hb n⟩) (fun b o hb n _ => hl b o hb n) hp h3)
        · rw [if_neg hp] at h; cases h
      · cases h
  | _, _, _, .scrK k, h => by rw [VS.den] at h; cases h; exact .scrK (by rw [hK]; exact k)
  | _, _, _, .scrR n hb, h => by rw [VS.den] at h; cases h; exact .scrR (hl _ _ hb n) hb
  | _, _, _, .emp n hb, h => by rw [VS.den] at h; cases h; exact .emp (hl _ _ hb n) hb
theorem VRs.den {σ : St} {env : Env} {S S0 : Store} {k : Nat} (R : Rep Γ μ σ H env S) (hK : Γ'.K = Γ.K) (h0 : ∀ (i : Nat) (ds : List D) (a : Addr), k ≤ i → S0[i]? = some (some ds) → S[i]? = some (some ds) ∧ (μ[i]? = some (some a) → ¬ Live μ' a ∧ Γ'.Ok true a))
    (hN : ∀ m a, ¬ Live μ a → Γ.Ok m a → Γ'.Ok m a) (hl : ∀ a o, H a = some o → ¬ Live μ a → ¬ Live μ' a) : ∀ {v : List V} {d e : List D}, VRs Γ μ H v d → VS.denL k S0 d = some e → VRs Γ' μ' H v e
  | _, _, _, .nil, h => by rw [denL] at h; cases h; exact .nil
  | _, _, _, .cons r t, h => by
    rw [denL] at h
    obtain ⟨x, e1, h⟩ := bind_some h
    obtain ⟨xs, e2, h⟩ := bind_some h
    cases h
    exact .cons (VR.den R hK h0 hN hl r e1) (VRs.den R hK h0 hN hl t e2)
end
mutual
theorem VR.new (hN : ∀ a xs, ¬ Live μ a → Γ.Ok true a → H a = some (.lst xs) → Γ'.Ok true a ∧ ¬ Live μ' a) : ∀ {v : V} {d : D}, newD d = true → VR Γ μ H v d → VR Γ' μ' H v d
  | _, _, _, .non => .non
  | _, _, _, .bl b => .bl b
  | _, _, _, .int i => .int i
  | _, _, _, .str x => .str x
  | _, _, _, .ty n => .ty n
  | _, _, h, .tup hb t => by rw [newD] at h; exact .tup hb (VRs.new hN h t)
  | _, .lst m ds, h, .lst o n hb t => by
    rw [newD, Bool.and_eq_true] at h
    obtain ⟨rfl, h⟩ := h
    exact .lst (hN _ _ n o hb).1 (hN _ _ n o hb).2 hb (VRs.new hN h t)
  | _, _, h, .ref _ _ => by simp [newD] at h
  | _, _, h, .scrK _ => by simp [newD] at h
  | _, _, h, .scrR _ _ => by simp [newD] at h
  | _, _, h, .emp _ _ => by simp [newD] at h
theorem VRs.new (hN : ∀ a xs, ¬ Live μ a → Γ.Ok true a → H a = some (.lst xs) → Γ'.Ok true a ∧ ¬ Live μ' a) : ∀ {v : List V} {d : List D}, newL d = true → VRs Γ μ H v d → VRs Γ' μ' H v d
  | _, _, _, .nil => .nil
  | _, _, h, .cons r t => by
    rw [newL, Bool.and_eq_true] at h
    exact .cons (VR.new hN h.1 r) (VRs.new hN h.2 t)
end
mutual
theorem VR.flat : ∀ {v : V} {d : D}, flatD d = true → VR Γ μ H v d → VR Γ' μ' H v d
  | _, _, _, .non => .non
  | _, _, _, .bl b => .bl b
  | _, _, _, .int i => .int i
  | _, _, _, .str x => .str x
  | _, _, _, .ty n => .ty n
  | _, _, h, .tup hb t => by rw [flatD] at h; exact .tup hb (VRs.flat h t)
  | _, _, h, .lst _ _ _ _ => by simp [flatD] at h
  | _, _, h, .ref _ _ => by simp [flatD] at h
  | _, _, h, .scrK _ => by simp [flatD] at h
  | _, _, h, .scrR _ _ => by simp [flatD] at h
  | _, _, h, .emp _ _ => by simp [flatD] at h
theorem VRs.flat : ∀ {v : List V} {d : List D}, flatL d = true → VRs Γ μ H v d → VRs Γ' μ' H v d
  | _, _, _, .nil => .nil
  | _, _, h, .cons r t => by
    rw [flatL, Bool.and_eq_true] at h
    exact .cons (VR.flat h.1 r) (VRs.flat h.2 t)
end
mutual
theorem den_pure {k : Nat} {S : Store} : ∀ {d e : D}, den k S d = some e → pureD e = true
  | .tup ds, e, h => by
    rw [den] at h
    obtain ⟨es, e1, e2⟩ := map_some h
    subst e2
    rw [pureD]; exact denL_pure e1
  | .lst m ds, e, h => by
    rw [den] at h
    obtain ⟨es, e1, e2⟩ := map_some h
    subst e2
    rw [pureD]; exact denL_pure e1
  | .ref i, e, h => by
    rw [den] at h
    by_cases hk : i < k
    · rw [if_pos hk] at h; cases h
    · rw [if_neg hk] at h
      split at h
      · rename_i ds hd
        by_cases hp : pureL ds = true
        · rw [if_pos hp] at h; cases h; rw [pureD]; exact hp
        · rw [if_neg hp] at h; cases h
      · cases h
  | .non, e, h => by rw [den] at h; cases h; rfl
  | .bl _, e, h => by rw [den] at h; cases h; rfl
  | .int _, e, h => by rw [den] at h; cases h; rfl
  | .str _, e, h => by rw [den] at h; cases h; rfl
  | .ty _, e, h => by rw [den] at h; cases h; rfl
  | .scr _, e, h => by rw [den] at h; cases h; rfl
  | .emp, e, h => by rw [den] at h; cases h; rfl
theorem denL_pure {k : Nat} {S : Store} : ∀ {d e : List D}, denL k S d = some e → pureL e = true
  | [], e, h => by rw [denL] at h; cases h; rfl
  | d :: r, e, h => by
    rw [denL] at h
    obtain ⟨x, e1, h⟩ := bind_some h
    obtain ⟨xs, e2, h⟩ := bind_some h
    cases h
    rw [pureL, den_pure e1, denL_pure e2]; rfl
end
end
end VS
end
section
set_option Elab.async false
set_option maxRecDepth 10000
set_option linter.all false
namespace VS
open PySem PySem.Spec L2
abbrev PSem := List D → Option D
abbrev MSem := List Int → List D → Option (D × List Int)
def intsOf : List D → Option (List Int)
  | [] => some []
  | .int i :: r => (intsOf r).map (i :: ·)
  | _ => none
theorem intsOf_some : ∀ {ds : List D} {ns : List Int}, intsOf ds = some ns → ds = ns.map D.int
  | [], _, h => by cases h; rfl
  | .int i :: r, ns, h => by
    obtain ⟨ms, e1, e2⟩ := map_some h
    subst e2
    rw [List.map_cons, intsOf_some e1]
  | .non :: _, _, h => by cases h
  | .bl _ :: _, _, h => by cases h
  | .str _ :: _, _, h => by cases h
  | .ty _ :: _, _, h => by cases h
  | .tup _ :: _, _, h => by cases h
  | .lst _ _ :: _, _, h => by cases h
  | .ref _ :: _, _, h => by cases h
  | .scr _ :: _, _, h => by cases h
  | .emp :: _, _, h => by cases h
@[simp] theorem intsOf_map (ns : List Int) : intsOf (ns.map D.int) = some ns := by
  induction ns with
  | nil => rfl
  | cons n r ih => rw [List.map_cons, intsOf, ih]; rfl
def runP (np n : Nat) (f : SSem) : PSem := fun ds => if ds.length = np then (f (ds.map some ++ List.replicate (n - ds.length) none) []).bind fun p => match p.1 with | .ret d => den 0 p.2.2 d | .nx => some .non | _ => none else none
def runM (np n : Nat) (f : SSem) : MSem := fun ns ds => if ds.length + 1 = np then (f (some (.ref 0) :: (ds.map some ++ List.replicate (n - 1 - ds.length) none)) [some (ns.map D.int)]).bind fun p => match p.2.2[0]? with
  | some (some cs) => (intsOf cs).bind fun ms => (match p.1 with | .ret d => (den 1 p.2.2 d).map fun r => (r, ms) | .nx => some (.non, ms) | _ => none)
  | _ => none
  else none
def spP (K : PySem.W.Frag) (sem : PSem) (n : Nat) : Sp := fun vs H Q _ => ∃ (N : Addr → Prop) (ds : List D) (r : D), vs.length = n ∧ VRs ⟨K, H, N, []⟩ [] H vs ds ∧ sem ds = some r ∧ ∀ v H', Same H H' → VR ⟨K, H, N, []⟩ [] H' v r → Q v H'
def spM (K : PySem.W.Frag) (sem : MSem) (n : Nat) : Sp := fun vs H Q _ => ∃ (N : Addr → Prop) (a : Addr) (us : List V) (ns : List Int) (ds : List D) (r : D) (ms : List Int), vs = .ref a :: us ∧ vs.length = n ∧ H a = some (.lst (ns.map V.int)) ∧ VRs ⟨K, H, N, [a]⟩ [some a] H us ds ∧ sem ns ds = some (r, ms) ∧
  ∀ v H', (∀ b o, b ≠ a → H b = some o → H' b = some o) → H' a = some (.lst (ms.map V.int)) → VR ⟨K, H, N, [a]⟩ [some a] H' v r → Q v H'

section
variable {P : Program} {w : World} {K : PySem.W.Frag} {mg : Str → Option Value} {base : Heap}
theorem start_get {N : List Str} {vs : List V} {ds : List D} {Γ : Fr} {μ : Mu} {H : Hp} (r : VRs Γ μ H vs ds) {i : Nat} {d : D} {n : Nat} (h : (ds.map some ++ List.replicate n none : Env)[i]? = some (some d)) : ∃ v, (vs.map some ++ List.replicate (N.length - vs.length) none : St)[i]? = some (some v) ∧ VR Γ μ H v d := by
  have hi : i < ds.length := by
    by_cases hi : i < ds.length
    · exact hi
    · rw [List.getElem?_append_right (by simpa using hi), List.getElem?_replicate] at h
      split at h <;> cases h
  rw [List.getElem?_append_left (by simpa using hi), List.getElem?_map] at h
  have h2 : ds[i]? = some d := by
    cases q : ds[i]? with
    | none => rw [q] at h; cases h
    | some e => rw [q] at h; cases h; rfl
  obtain ⟨v, e1, e2⟩ := r.get h2
  refine ⟨v, ?_, e2⟩
  rw [List.getElem?_append_left (by rw [List.length_map, r.length]; exact hi), List.getElem?_map, e1]
  rfl
theorem live_nil {a : Addr} : ¬ Live [] a := fun z => by simp [Live] at z
theorem live_one {a b : Addr} : Live [some b] a ↔ a = b := by simp [Live]
theorem fnP {x qual : Str} {st : Stmt} {f : Addr} {fd : FuncData} {N ps : List Str} {k : Nat} {fs : SSem} (F : Fun K x qual st f fd) (Sc : FnScope N ps (defScope st))
    (hb : ∀ (cdv : Value) (A : Around) (outer : List PySem.Env) (s : Shared) (H : Hp) (E : XK), Room k (A.deeper (PyProof.Rows.envOfC qual (defScope st) s.heap.objs.size f cdv)) → JSs (cxOf CX0 P w K mg base N qual (defScope st) f cdv A outer s H E).nox (defBody st) fs) :
    FnOk P w K mg base CX0 (k + 1) f fd ps (spP K (runP ps.length N.length fs) ps.length) := by
  refine F.ok Sc (fun vs H Q E h => ?_) (fun cdv A outer s H vs Q E hr h => ?_)
  · obtain ⟨_, _, _, hl, _⟩ := h; exact hl
  obtain ⟨Nn, ds, r, hl, rs, e, q⟩ := h
  refine ⟨_, (hb cdv A outer s H E hr).ps, ?_⟩
  have hdl := rs.length
  unfold runP at e
  rw [if_pos (by omega)] at e
  obtain ⟨⟨fl, env', S'⟩, e1, e⟩ := bind_some e
  have hpl : ps.length ≤ N.length := by have := congrArg List.length Sc.pre; rw [List.length_take] at this; omega
  refine ⟨⟨K, H, Nn, []⟩, [], _, [], fl, env', S', rfl, ⟨fun i d h => start_get rs h, ?_, fun i ds h => by simp at h, fun i a h => by simp at h, fun i j a h => by simp at h, rfl, Ext.refl _ _, fun i a _ h => by simp at h⟩, e1, fun μ' σ' H' x' R' => ?_⟩
  · unfold L2.start
    rw [List.length_append, List.length_map, List.length_replicate, List.length_append, List.length_map, List.length_replicate, hdl]
  have sm : Same H H' := fun b o hb => (x'.keep b o hb live_nil).1
  dsimp only at e
  cases fl with
  | nx => cases e; exact q _ H' sm .non
  | brk => cases e
  | cnt => cases e
  | ret d =>
    intro v rv
    refine q v H' sm (VR.den R' rfl (fun i ds a _ hs => ⟨hs, fun hm => ⟨live_nil, ?_⟩⟩) (fun m a _ o => o) (fun a o _ _ => live_nil) rv e)
    have hn := R'.new i a (Nat.zero_le _) hm
    exact ⟨fun _ => hn, .inr hn⟩
theorem fnM {x qual : Str} {st : Stmt} {f : Addr} {fd : FuncData} {N ps : List Str} {k : Nat} {fs : SSem} (F : Fun K x qual st f fd) (Sc : FnScope N ps (defScope st))
    (hb : ∀ (cdv : Value) (A : Around) (outer : List PySem.Env) (s : Shared) (H : Hp) (E : XK), Room k (A.deeper (PyProof.Rows.envOfC qual (defScope st) s.heap.objs.size f cdv)) → JSs (cxOf CX0 P w K mg base N qual (defScope st) f cdv A outer s H E).nox (defBody st) fs) :
    FnOk P w K mg base CX0 (k + 1) f fd ps (spM K (runM ps.length N.length fs) ps.length) := by
  refine F.ok Sc (fun vs H Q E h => ?_) (fun cdv A outer s H vs Q E hr h => ?_)
  · obtain ⟨_, _, _, _, _, _, _, _, hl, _⟩ := h; exact hl
  obtain ⟨Nn, a, us, ns, ds, r, ms, rfl, hl, ha, rs, e, q⟩ := h
  refine ⟨_, (hb cdv A outer s H E hr).ps, ?_⟩
  have hdl := rs.length
  rw [List.length_cons] at hl
  unfold runM at e
  rw [if_pos (by omega)] at e
  obtain ⟨⟨fl, env', S'⟩, e1, e⟩ := bind_some e
  have hpl : ps.length ≤ N.length := by have := congrArg List.length Sc.pre; rw [List.length_take] at this; omega
  refine ⟨⟨K, H, Nn, [a]⟩, [some a], _, [some (ns.map D.int)], fl, env', S', rfl, ⟨fun i d h => ?_, ?_, fun i es h => ?_, fun i b h => ?_, fun i j b h1 h2 => ?_, rfl, Ext.refl _ _, fun i b hi h => ?_⟩, e1, fun μ' σ' H' x' R' => ?_⟩
  · cases i with
    | zero =>
      simp at h
      subst h
      refine ⟨.ref a, by simp [L2.start], .ref (by simp) fun b hb => ?_⟩
      simp at hb; rw [hb]
    | succ i =>
      rw [List.getElem?_cons_succ] at h
      obtain ⟨v, e1, e2⟩ := start_get (N := List.replicate (N.length - 1) "") rs h
      refine ⟨v, ?_, e2⟩
      unfold L2.start
      rw [List.map_cons, List.cons_append, List.getElem?_cons_succ, List.length_cons]
      rw [List.length_replicate] at e1
      rw [show N.length - (us.length + 1) = N.length - 1 - us.length by omega]
      exact e1
  · unfold L2.start
    rw [List.length_append, List.length_map, List.length_replicate, List.length_cons, List.length_cons, List.length_append, List.length_map, List.length_replicate, hdl]
    omega
  · cases i with
    | zero => simp at h; subst h; exact ⟨a, _, by simp, ha, VRs.ints ns⟩
    | succ i => simp at h
  · cases i with
    | zero => exact ⟨_, rfl⟩
    | succ i => simp at h
  · cases i with
    | zero => cases j with
      | zero => rfl
      | succ j => simp at h2
    | succ i => simp at h1
  · cases i with
    | zero => simp at hi
    | succ i => simp at h
  have sm : ∀ b o, b ≠ a → H b = some o → H' b = some o := fun b o hb h => (x'.keep b o h fun z => hb (live_one.mp z)).1
  dsimp only at e
  split at e
  · rename_i cs hc
    obtain ⟨ms', e3, e5⟩ := bind_some e
    clear e
    obtain ⟨a', xs', g1, g2, g3⟩ := R'.sto 0 cs hc
    have ea : a' = a := by
      have := x'.ids 0 a' (by simp) g1
      simp at this; exact this.symm
    subst ea
    have ec := intsOf_some e3
    subst ec
    have ex := g3.intsI
    subst ex
    cases fl with
    | nx => cases e5; exact q _ H' sm g2 .non
    | brk => cases e5
    | cnt => cases e5
    | ret d =>
      intro v rv
      dsimp only at e5
      obtain ⟨r', e4, e6⟩ := map_some e5
      cases e6
      refine q v H' sm g2 (VR.den R' rfl (fun i es b hi hs => ⟨hs, fun hm => ⟨fun z => ?_, ?_⟩⟩) (fun m b _ o => o) (fun b o _ n z => n ?_) rv e4)
      · have : b = a' := live_one.mp z
        subst this
        have := R'.inj 0 i b g1 hm
        omega
      · have hn := R'.new i b hi hm
        exact ⟨fun _ => hn, .inr hn⟩
      · have : b = a' := live_one.mp z
        subst this
        exact List.mem_of_getElem? g1
  · cases e
end
theorem runP_ok {np n : Nat} {f : SSem} {ds : List D} {r : D} (h : runP np n f ds = some r) : ds.length = np ∧ pureD r = true := by
  unfold runP at h
  by_cases hl : ds.length = np
  · rw [if_pos hl] at h
    obtain ⟨⟨fl, env', S'⟩, e1, e⟩ := bind_some h
    refine ⟨hl, ?_⟩
    dsimp only at e
    cases fl with
    | nx => cases e; rfl
    | brk => cases e
    | cnt => cases e
    | ret d => exact den_pure e
  · rw [if_neg hl] at h; cases h
theorem runM_ok {np n : Nat} {f : SSem} {ns : List Int} {ds : List D} {r : D × List Int} (h : runM np n f ns ds = some r) : ds.length + 1 = np ∧ pureD r.1 = true := by
  unfold runM at h
  by_cases hl : ds.length + 1 = np
  · rw [if_pos hl] at h
    obtain ⟨⟨fl, env', S'⟩, e1, e⟩ := bind_some h
    refine ⟨hl, ?_⟩
    dsimp only at e
    split at e
    · rename_i cs hc
      obtain ⟨ms', e3, e⟩ := bind_some e
      cases fl with
      | nx => cases e; rfl
      | brk => cases e
      | cnt => cases e
      | ret d =>
        dsimp only at e
        obtain ⟨r', e4, e⟩ := map_some e
        cases e
        exact den_pure e4
    · cases e
  · rw [if_neg hl] at h; cases h
end VS
end
section
set_option Elab.async false
set_option maxRecDepth 10000
set_option linter.all false
namespace VS
open PySem PySem.Spec L2
structure CalP (P : Program) (w : World) (K : PySem.W.Frag) (mg : Str → Option Value) (base : Heap) (x : Str) (k : Nat) (sem : PSem) : Prop where
  cal : ∃ ps, Cal P w K mg base x k ps (spP K sem ps.length) ∧ ∀ ds r, sem ds = some r → ds.length = ps.length ∧ pureD r = true
structure CalM (P : Program) (w : World) (K : PySem.W.Frag) (mg : Str → Option Value) (base : Heap) (x : Str) (k : Nat) (sem : MSem) : Prop where
  cal : ∃ ps, Cal P w K mg base x k ps (spM K sem ps.length) ∧ ∀ ns ds r, sem ns ds = some r → ds.length + 1 = ps.length ∧ pureD r.1 = true
def eCallP (sem : PSem) (a : ASem) : ESem := fun env S => (a env S).bind fun p => (denL 0 p.2 p.1).bind fun ds => (sem (ageL ds)).bind fun r => if (pureL p.1 || newD r) = true then some (r, p.2) else none
def eCallM (sem : MSem) (a : ASem) : ESem := fun env S => (a env S).bind fun p => match p.1 with
  | .ref i :: rest => (match p.2[i]? with
    | some (some cs) => (intsOf cs).bind fun ns => (denL 0 (p.2.set i none) rest).bind fun ds => (sem ns (ageL ds)).bind fun r => if (pureL rest || newD r.1) = true then some (r.1, p.2.set i (some (r.2.map D.int))) else none
    | _ => none)
  | _ => none
def thawL (n : Nat) : List D → Option (List D × List D)
  | [] => none
  | d :: r => if flatD d = true then (thawL n r).map fun p => (d :: p.1, p.2) else match d with
    | .lst true ds => if (flatL ds && flatL r) = true then some (.ref n :: r, ds) else none
    | _ => none
def thaw (n : Nat) : D → Option (D × List D)
  | .lst true ds => if flatL ds = true then some (.ref n, ds) else none
  | .tup es => (thawL n es).map fun p => (.tup p.1, p.2)
  | _ => none
def eThawP (sem : PSem) (a : ASem) : ESem := fun env S => (eCallP sem a env S).bind fun p => (thaw p.2.length p.1).bind fun q => some (q.1, p.2 ++ [some q.2])
def eThawM (sem : MSem) (a : ASem) : ESem := fun env S => (eCallM sem a env S).bind fun p => (thaw p.2.length p.1).bind fun q => some (q.1, p.2 ++ [some q.2])

section
variable {Γ : Fr} {μ : Mu} {σ : St} {H H' : Hp} {env : Env} {S : Store}
theorem lend {K : PySem.W.Frag} (hK : Γ.K = K) (R : Rep Γ μ σ H env S) {S0 : Store} {m0 : List Addr} {vs : List V} {ds es : List D} (r : VRs Γ μ H vs ds) (e : denL 0 S0 ds = some es) (h0 : ∀ (i : Nat) (ds : List D) (a : Addr), S0[i]? = some (some ds) → S[i]? = some (some ds) ∧ (μ[i]? = some (some a) → ¬ Live (m0.map some) a)) (hm : ∀ a ∈ m0, Live μ a)
    (c : Bool) (hc : (pureL ds || c) = true) : ∃ N : Addr → Prop, VRs ⟨K, H, N, m0⟩ (m0.map some) H vs (ageL es) ∧ (c = true ∨ ∀ a, N a → ¬ Live μ a ∧ (Γ.N a ∨ Γ.H0 a = none)) := by
  subst hK
  have hl : ∀ a o, H a = some o → ¬ Live μ a → ¬ Live (m0.map some) a := fun a o _ n z => n (hm a (by simpa [Live] using z))
  by_cases hp : pureL ds = true
  · rw [pure_denL 0 S0 hp] at e
    cases e
    exact ⟨fun a => ¬ Live μ a ∧ (Γ.N a ∨ Γ.H0 a = none), VRs.age (Γ := Γ) (Γ' := ⟨Γ.K, H, fun a => ¬ Live μ a ∧ (Γ.N a ∨ Γ.H0 a = none), m0⟩) rfl (fun a n o => ⟨n, o⟩) hl hp r, .inr fun a z => z⟩
  · have hc' : c = true := by simpa [hp] using hc
    refine ⟨fun _ => True, ?_, .inl hc'⟩
    have r1 : VRs ⟨Γ.K, fun _ => none, fun _ => True, m0⟩ (m0.map some) H vs es := VRs.den (Γ' := ⟨Γ.K, fun _ => none, fun _ => True, m0⟩) R rfl (fun i ds a _ hs => ⟨(h0 i ds a hs).1, fun z => ⟨(h0 i ds a hs).2 z, ⟨fun _ => rfl, .inl trivial⟩⟩⟩) (fun m a _ _ => ⟨fun _ => rfl, .inl trivial⟩) hl r e
    exact VRs.age (Γ := ⟨Γ.K, fun _ => none, fun _ => True, m0⟩) (Γ' := ⟨Γ.K, H, fun _ => True, m0⟩) (μ := m0.map some) rfl (fun a _ _ => trivial) (fun a o _ n => n) (denL_pure e) r1
theorem home {K : PySem.W.Frag} (hK : Γ.K = K) (R : Rep Γ μ σ H env S) {N : Addr → Prop} {m0 : List Addr} {v : V} {r : D} (lv : ∀ a, Live μ a → ∃ xs, H' a = some (.lst xs)) (hp : pureD r = true) (c : newD r = true ∨ ∀ a, N a → ¬ Live μ a ∧ (Γ.N a ∨ Γ.H0 a = none))
    (rv : VR ⟨K, H, N, m0⟩ (m0.map some) H' v r) : VR Γ μ H' v r := by
  subst hK
  rcases c with c | c
  · exact VR.new (fun a xs n o hb => ⟨R.ok (o.1 rfl) true, R.dead (o.1 rfl)⟩) c rv
  · refine VR.pure (Γ := ⟨Γ.K, H, N, m0⟩) (Γ' := Γ) rfl (fun m a xs n o hb => ?_) (fun a o hb n hx z => ?_) hp rv
    · rcases o.2 with z | z
      · refine ⟨⟨fun hm => R.fresh (o.1 hm), (c a z).2⟩, (c a z).1⟩
      · exact ⟨R.ok z m, R.dead z⟩
    · obtain ⟨xs, q⟩ := lv a z
      rw [q] at hb
      exact hx xs (Option.some.inj hb).symm
theorem Rep.adopt (R : Rep Γ μ σ H env S) (sm : Same H H') {a : Addr} {xs : List V} {ds : List D} (hn : H a = none) (ha : H' a = some (.lst xs)) (hf : flatL ds = true) {Γ' : Fr} {μ' : Mu} (rs : VRs Γ' μ' H' xs ds) :
    Rep Γ (μ ++ [some a]) σ H' env (S ++ [some ds]) ∧ Ext μ H (μ ++ [some a]) H' := by
  have ne : ∀ b o, H b = some o → b ≠ a := fun b o h z => by rw [z, hn] at h; cases h
  have x : Ext μ H (μ ++ [some a]) H' := by
    refine ⟨fun b o h n => ⟨sm b o h, fun z => ?_⟩, fun b ys h => sm b _ h, fun b h => sm.free h, fun i b hi h => ?_, by rw [List.length_append]; omega⟩
    · rcases List.mem_append.mp z with z | z
      · exact n z
      · have z' : b = a := by simpa using z
        exact ne b o h z'
    · rw [List.getElem?_append_left hi] at h; exact h
  have idx : ∀ i b, (μ ++ [some a])[i]? = some (some b) → (i < μ.length ∧ μ[i]? = some (some b)) ∨ (i = μ.length ∧ b = a) := fun i b h => by
    by_cases hi : i < μ.length
    · rw [List.getElem?_append_left hi] at h; exact .inl ⟨hi, h⟩
    · rw [List.getElem?_append_right (by omega)] at h
      have hl := (List.getElem?_eq_some_iff.mp h).1
      have hi' : i = μ.length := by simp at hl; omega
      subst hi'
      simp at h
      exact .inr ⟨rfl, h.symm⟩
  have no : ∀ i, μ[i]? = some (some a) → False := fun i h => R.dead hn (List.mem_of_getElem? h)
  refine ⟨⟨fun i d h => ?_, R.len, fun i es h => ?_, fun i b h => ?_, fun i j b h1 h2 => ?_, by rw [List.length_append, List.length_append, R.slen]; rfl, R.ent.trans x, fun i b hi h => ?_⟩, x⟩
  · obtain ⟨v, h1, h2⟩ := R.vals i d h
    exact ⟨v, h1, h2.ext x⟩
  · by_cases hi : i < S.length
    · rw [List.getElem?_append_left hi] at h
      obtain ⟨b, ys, h1, h2, h3⟩ := R.sto i es h
      exact ⟨b, ys, by rw [List.getElem?_append_left (by rw [← R.slen]; exact hi)]; exact h1, sm _ _ h2, h3.ext x⟩
    · rw [List.getElem?_append_right (by omega)] at h
      have hl := (List.getElem?_eq_some_iff.mp h).1
      have hi' : i = S.length := by simp at hl; omega
      subst hi'
      simp at h
      subst h
      exact ⟨a, xs, by rw [R.slen]; simp, ha, VRs.flat hf rs⟩
  · rcases idx i b h with ⟨hi, h⟩ | ⟨rfl, rfl⟩
    · obtain ⟨ds', q⟩ := R.liv i b h
      exact ⟨ds', by rw [List.getElem?_append_left (by rw [R.slen]; exact hi)]; exact q⟩
    · exact ⟨ds, by rw [← R.slen]; simp⟩
  · rcases idx i b h1 with ⟨_, g1⟩ | ⟨e1, e2⟩
    · rcases idx j b h2 with ⟨_, g2⟩ | ⟨e3, e4⟩
      · exact R.inj i j b g1 g2
      · exact (no i (e4 ▸ g1)).elim
    · rcases idx j b h2 with ⟨_, g2⟩ | ⟨e3, _⟩
      · exact (no j (e2 ▸ g2)).elim
      · rw [e1, e3]
  · rcases idx i b h with ⟨_, h⟩ | ⟨rfl, rfl⟩
    · exact R.new i b hi h
    · exact R.fresh hn
end
theorem thawL_is {Γ : Fr} {μ : Mu} {H : Hp} {n : Nat} : ∀ {vs : List V} {ds : List D} {p : List D × List D}, thawL n ds = some p → VRs Γ μ H vs ds →
    ∃ a xs, Γ.Ok true a ∧ H a = some (.lst xs) ∧ VRs Γ μ H xs p.2 ∧ flatL p.2 = true ∧ ∀ (Γ' : Fr) (μ' : Mu), μ'[n]? = some (some a) → VRs Γ' μ' H vs p.1
  | _, [], _, h, _ => by cases h
  | _, d :: r, p, h, .cons (xs := vr) rd rr => by
    unfold thawL at h
    by_cases hf : flatD d = true
    · rw [if_pos hf] at h
      obtain ⟨q, e1, e2⟩ := map_some h
      subst e2
      obtain ⟨a, xs, h1, h2, h3, h4, h5⟩ := thawL_is e1 rr
      exact ⟨a, xs, h1, h2, h3, h4, fun Γ' μ' z => .cons (VR.flat hf rd) (h5 Γ' μ' z)⟩
    · rw [if_neg hf] at h
      split at h
      · rename_i ds
        by_cases hg : (flatL ds && flatL r) = true
        · rw [if_pos hg] at h
          cases h
          rw [Bool.and_eq_true] at hg
          cases rd with
          | @lst _ a xs _ o nl hb t =>
            refine ⟨a, xs, o, hb, t, hg.1, fun Γ' μ' z => .cons (.ref (List.getElem?_eq_some_iff.mp z).1 fun b hb' => ?_) (VRs.flat hg.2 rr)⟩
            rw [z] at hb'; cases hb'; rfl
        · rw [if_neg hg] at h; cases h
      · cases h
theorem thaw_is {Γ : Fr} {μ : Mu} {H : Hp} {n : Nat} {v : V} {d : D} {p : D × List D} (h : thaw n d = some p) (r : VR Γ μ H v d) :
    ∃ a xs, Γ.Ok true a ∧ H a = some (.lst xs) ∧ VRs Γ μ H xs p.2 ∧ flatL p.2 = true ∧ ∀ (Γ' : Fr) (μ' : Mu), μ'[n]? = some (some a) → VR Γ' μ' H v p.1 := by
  unfold thaw at h
  split at h
  · rename_i ds
    by_cases hg : flatL ds = true
    · rw [if_pos hg] at h
      cases h
      cases r with
      | @lst _ a xs _ o nl hb t =>
        refine ⟨a, xs, o, hb, t, hg, fun Γ' μ' z => .ref (List.getElem?_eq_some_iff.mp z).1 fun b hb' => ?_⟩
        rw [z] at hb'; cases hb'; rfl
    · rw [if_neg hg] at h; cases h
  · rename_i es
    obtain ⟨q, e1, e2⟩ := map_some h
    subst e2
    cases r with
    | @tup b xs _ hb t =>
      obtain ⟨a, ys, h1, h2, h3, h4, h5⟩ := thawL_is e1 t
      exact ⟨a, ys, h1, h2, h3, h4, fun Γ' μ' z => .tup hb (h5 Γ' μ' z)⟩
  · cases h
section
variable {X : Cx} {x : Str} {k k' : Nat} {e : Expr} {es : List Expr} {f : ASem} {p pos : Pos}
theorem je_callP {sem : PSem} (c : CalP X.prog X.w X.K X.mg X.base x k sem) (hr : Room k' X.A) (hk : k ≤ k') (hg : Gl X x) (ha : JA X (e :: es) f)
    (hdb : (x == ("__debug__" : Str)) = false := by decide) (he : starEach (e :: es) X.env = (false, eval e X.env) :: starEach es X.env := by rfl) (hpl : (backTo pos (starEach es X.env)).any (·.1) = false := by rfl) :
    JE X (.Call (.Name x p) (e :: es) [] pos) (eCallP sem f) := by
  obtain ⟨ps, c, hok⟩ := c.cal
  refine ⟨PE.imp (pe_callC c hr hk hg ha.pa hdb he hpl) fun σ H Q h => ?_⟩
  obtain ⟨Γ, μ, env, S, d, S', hK, R, e, q⟩ := h
  obtain ⟨⟨as, S1⟩, e1, e⟩ := bind_some e
  obtain ⟨ds, e2, e⟩ := bind_some e
  obtain ⟨r, e3, e⟩ := bind_some e
  refine ⟨Γ, μ, env, S, as, S1, hK, R, e1, fun vs μ1 H1 x1 R1 r1 => ?_⟩
  show spP X.K sem ps.length (vs ++ []) H1 Q E0
  rw [List.append_nil]
  dsimp only at e e2
  by_cases hc : (pureL as || newD r) = true
  · rw [if_pos hc] at e
    cases e
    obtain ⟨hl, hp⟩ := hok _ _ e3
    obtain ⟨N, rs, cN⟩ := lend hK R1 (m0 := []) r1 e2 (fun i ds a hs => ⟨hs, fun _ => live_nil⟩) (fun a z => by simp at z) (newD d) hc
    refine ⟨N, _, d, ?_, rs, e3, fun v H' sm rv => ?_⟩
    · rw [rs.length, hl]
    obtain ⟨R2, x2⟩ := R1.grow sm
    exact q v μ1 H' (x1.trans x2) R2 (home hK R1 (fun a z => R2.live z) hp cN rv)
  · rw [if_neg hc] at e; cases e
theorem je_thawP {sem : PSem} (c : CalP X.prog X.w X.K X.mg X.base x k sem) (hr : Room k' X.A) (hk : k ≤ k') (hg : Gl X x) (ha : JA X (e :: es) f)
    (hdb : (x == ("__debug__" : Str)) = false := by decide) (he : starEach (e :: es) X.env = (false, eval e X.env) :: starEach es X.env := by rfl) (hpl : (backTo pos (starEach es X.env)).any (·.1) = false := by rfl) :
    JE X (.Call (.Name x p) (e :: es) [] pos) (eThawP sem f) := by
  obtain ⟨ps, c, hok⟩ := c.cal
  refine ⟨PE.imp (pe_callC c hr hk hg ha.pa hdb he hpl) fun σ H Q h => ?_⟩
  obtain ⟨Γ, μ, env, S, d, S', hK, R, e, q⟩ := h
  obtain ⟨⟨d0, S0⟩, e0, e⟩ := bind_some e
  obtain ⟨t, et, e⟩ := bind_some e
  cases e
  obtain ⟨⟨as, S1⟩, e1, e⟩ := bind_some e0
  obtain ⟨ds, e2, e⟩ := bind_some e
  obtain ⟨r, e3, e⟩ := bind_some e
  refine ⟨Γ, μ, env, S, as, S1, hK, R, e1, fun vs μ1 H1 x1 R1 r1 => ?_⟩
  show spP X.K sem ps.length (vs ++ []) H1 Q E0
  rw [List.append_nil]
  dsimp only at e e2
  by_cases hc : (pureL as || newD r) = true
  · rw [if_pos hc] at e
    cases e
    obtain ⟨hl, hp⟩ := hok _ _ e3
    obtain ⟨N, rs, cN⟩ := lend hK R1 (m0 := []) r1 e2 (fun i ds a hs => ⟨hs, fun _ => live_nil⟩) (fun a z => by simp at z) (newD d0) hc
    refine ⟨N, _, d0, ?_, rs, e3, fun v H' sm rv => ?_⟩
    · rw [rs.length, hl]
    obtain ⟨a, xs, h1, h2, h3, h4, h5⟩ := thaw_is et rv
    obtain ⟨R2, x2⟩ := R1.adopt sm (h1.1 rfl) h2 h4 h3
    exact q v _ H' (x1.trans x2) R2 (h5 _ _ (by rw [R1.slen]; simp))
  · rw [if_neg hc] at e; cases e
theorem je_callM {sem : MSem} (c : CalM X.prog X.w X.K X.mg X.base x k sem) (hr : Room k' X.A) (hk : k ≤ k') (hg : Gl X x) (ha : JA X (e :: es) f)
    (hdb : (x == ("__debug__" : Str)) = false := by decide) (he : starEach (e :: es) X.env = (false, eval e X.env) :: starEach es X.env := by rfl) (hpl : (backTo pos (starEach es X.env)).any (·.1) = false := by rfl) :
    JE X (.Call (.Name x p) (e :: es) [] pos) (eCallM sem f) := by
  obtain ⟨ps, c, hok⟩ := c.cal
  refine ⟨PE.imp (pe_callC c hr hk hg ha.pa hdb he hpl) fun σ H Q h => ?_⟩
  obtain ⟨Γ, μ, env, S, d, S', hK, R, e, q⟩ := h
  obtain ⟨⟨as, S1⟩, e1, e⟩ := bind_some e
  refine ⟨Γ, μ, env, S, as, S1, hK, R, e1, fun vs μ1 H1 x1 R1 r1 => ?_⟩
  show spM X.K sem ps.length (vs ++ []) H1 Q E0
  rw [List.append_nil]
  dsimp only at e
  split at e
  · rename_i i rest
    split at e
    · rename_i cs hcs
      obtain ⟨ns, e4, e⟩ := bind_some e
      obtain ⟨ds, e2, e⟩ := bind_some e
      obtain ⟨⟨r, ms⟩, e3, e⟩ := bind_some e
      dsimp only at e
      by_cases hc : (pureL rest || newD r) = true
      · rw [if_pos hc] at e
        cases e
        obtain ⟨hl, hp⟩ := hok _ _ _ e3
        have ecs := intsOf_some e4
        subst ecs
        cases r1 with
        | @cons v0 _ us _ r0 rr =>
          obtain ⟨a, xs, rfl, h1, h2, h3⟩ := VR.refI R1 r0 hcs
          have ex := h3.intsI
          subst ex
          have hi : i < S1.length := (List.getElem?_eq_some_iff.mp hcs).1
          obtain ⟨N, rs, cN⟩ := lend hK R1 (S0 := S1.set i none) (m0 := [a]) rr e2 (fun j es b hs => by
            have hj : i ≠ j := fun z => by
              subst z
              rw [List.getElem?_set_self hi] at hs; cases hs
            rw [List.getElem?_set_ne hj] at hs
            exact ⟨hs, fun hm z => hj (R1.inj i j a h1 (by rw [show a = b from (live_one.mp z).symm]; exact hm))⟩) (fun b z => by
              have : b = a := by simpa using z
              rw [this]; exact List.mem_of_getElem? h1) (newD d) hc
          refine ⟨N, a, us, ns, _, d, ms, rfl, ?_, h2, rs, e3, fun v H' sm ha' rv => ?_⟩
          · rw [List.length_cons, rs.length, hl]
          obtain ⟨R2, x2⟩ := R1.put h1 (VRs.ints ms)
          have sm2 : Same (upd H1 a (.lst (ms.map V.int))) H' := fun b o hb => by
            by_cases z : b = a
            · rw [z, upd_same] at hb; cases hb; rw [z]; exact ha'
            · rw [upd_ne z] at hb; exact sm b o z hb
          obtain ⟨R3, x3⟩ := R2.grow sm2
          exact q v μ1 H' (x1.trans (x2.trans x3)) R3 (home hK R1 (fun a z => R3.live z) hp cN rv)
      · rw [if_neg hc] at e; cases e
    · cases e
  · cases e
theorem je_thawM {sem : MSem} (c : CalM X.prog X.w X.K X.mg X.base x k sem) (hr : Room k' X.A) (hk : k ≤ k') (hg : Gl X x) (ha : JA X (e :: es) f)
    (hdb : (x == ("__debug__" : Str)) = false := by decide) (he : starEach (e :: es) X.env = (false, eval e X.env) :: starEach es X.env := by rfl) (hpl : (backTo pos (starEach es X.env)).any (·.1) = false := by rfl) :
    JE X (.Call (.Name x p) (e :: es) [] pos) (eThawM sem f) := by
  obtain ⟨ps, c, hok⟩ := c.cal
  refine ⟨PE.imp (pe_callC c hr hk hg ha.pa hdb he hpl) fun σ H Q h => ?_⟩
  obtain ⟨Γ, μ, env, S, d, S', hK, R, e, q⟩ := h
  obtain ⟨⟨d0, S0⟩, e0, e⟩ := bind_some e
  obtain ⟨t, et, e⟩ := bind_some e
  cases e
  obtain ⟨⟨as, S1⟩, e1, e⟩ := bind_some e0
  refine ⟨Γ, μ, env, S, as, S1, hK, R, e1, fun vs μ1 H1 x1 R1 r1 => ?_⟩
  show spM X.K sem ps.length (vs ++ []) H1 Q E0
  rw [List.append_nil]
  dsimp only at e
  split at e
  · rename_i i rest
    split at e
    · rename_i cs hcs
      obtain ⟨ns, e4, e⟩ := bind_some e
      obtain ⟨ds, e2, e⟩ := bind_some e
      obtain ⟨⟨r, ms⟩, e3, e⟩ := bind_some e
      dsimp only at e
      by_cases hc : (pureL rest || newD r) = true
      · rw [if_pos hc] at e
        cases e
        obtain ⟨hl, hp⟩ := hok _ _ _ e3
        have ecs := intsOf_some e4
        subst ecs
        cases r1 with
        | @cons v0 _ us _ r0 rr =>
          obtain ⟨a, xs, rfl, h1, h2, h3⟩ := VR.refI R1 r0 hcs
          have ex := h3.intsI
          subst ex
          have hi : i < S1.length := (List.getElem?_eq_some_iff.mp hcs).1
          obtain ⟨N, rs, cN⟩ := lend hK R1 (S0 := S1.set i none) (m0 := [a]) rr e2 (fun j es b hs => by
            have hj : i ≠ j := fun z => by
              subst z
              rw [List.getElem?_set_self hi] at hs; cases hs
            rw [List.getElem?_set_ne hj] at hs
            exact ⟨hs, fun hm z => hj (R1.inj i j a h1 (by rw [show a = b from (live_one.mp z).symm]; exact hm))⟩) (fun b z => by
              have : b = a := by simpa using z
              rw [this]; exact List.mem_of_getElem? h1) (newD d0) hc
          refine ⟨N, a, us, ns, _, d0, ms, rfl, ?_, h2, rs, e3, fun v H' sm ha' rv => ?_⟩
          · rw [List.length_cons, rs.length, hl]
          obtain ⟨R2, x2⟩ := R1.put h1 (VRs.ints ms)
          have sm2 : Same (upd H1 a (.lst (ms.map V.int))) H' := fun b o hb => by
            by_cases z : b = a
            · rw [z, upd_same] at hb; cases hb; rw [z]; exact ha'
            · rw [upd_ne z] at hb; exact sm b o z hb
          obtain ⟨b, ys, g1, g2, g3, g4, g5⟩ := thaw_is et rv
          have hb : upd H1 a (.lst (ms.map V.int)) b = none := by
            have hn : H1 b = none := g1.1 rfl
            rw [upd_ne (fun z => by rw [z, h2] at hn; cases hn)]; exact hn
          obtain ⟨R3, x3⟩ := R2.adopt sm2 hb g2 g4 g3
          exact q v _ H' (x1.trans (x2.trans x3)) R3 (g5 _ _ (by rw [List.length_set, R1.slen]; simp))
      · rw [if_neg hc] at e; cases e
    · cases e
  · cases e
end
end VS
end
section
set_option Elab.async false
set_option maxRecDepth 10000
set_option linter.all false
namespace VS
open PySem PySem.Spec L2
theorem OpR.or {X : Cx} {f : Value → Value → Sem Value} {r r' : R2} (h : OpR X f r) (h' : OpR X f r') : OpR X f (fun x y H Q => r x y H Q ∨ r' x y H Q) := fun pins s σ H x y v u Q I rx ry q => q.elim (fun z => h pins s σ H x y v u Q I rx ry z) fun z => h' pins s σ H x y v u Q I rx ry z
theorem CallR.or {X : Cx} {f : Value} {r r' : List V → Hp → VK → Prop} (h : CallR X f r) (h' : CallR X f r') : CallR X f (fun xs H Q => r xs H Q ∨ r' xs H Q) := fun pins s σ H xs us Q I rs q => q.elim (fun z => h pins s σ H xs us Q I rs z) fun z => h' pins s σ H xs us Q I rs z
def oI (c : Int → Int → Bool) (g : Int → Int → D) (_ : Store) : D → D → Option D
  | .int i, .int j => if c i j = true then some (g i j) else none
  | _, _ => none
def yes2 (_ _ : Int) : Bool := true
theorem sem_I {K : PySem.W.Frag} {C : Int → Int → Prop} {c : Int → Int → Bool} (g : Int → Int → Int) (hc : ∀ i j, c i j = true → C i j) : Sem2 K (rI C fun i j => .int (g i j)) (oI c fun i j => .int (g i j)) := by
  intro Γ μ σ H env S x y dx dy d hK R rx ry e Q q
  unfold oI at e
  split at e
  · rename_i i j
    by_cases h : c i j = true
    · rw [if_pos h] at e; cases e; cases rx; cases ry
      exact ⟨i, j, rfl, rfl, hc i j h, q _ H (Same.refl H) (.int _)⟩
    · rw [if_neg h] at e; cases e
  · cases e
theorem sem_I0 {K : PySem.W.Frag} (g : Int → Int → Int) : Sem2 K (rI0 fun i j => .int (g i j)) (oI yes2 fun i j => .int (g i j)) := by
  intro Γ μ σ H env S x y dx dy d hK R rx ry e Q q
  unfold oI at e
  split at e
  · rename_i i j
    rw [if_pos (show yes2 i j = true from rfl)] at e; cases e; cases rx; cases ry
    exact ⟨i, j, rfl, rfl, q _ H (Same.refl H) (.int _)⟩
  · cases e
theorem sem_B0 {K : PySem.W.Frag} (g : Int → Int → Bool) : Sem2 K (rI0 fun i j => .bl (g i j)) (oI yes2 fun i j => .bl (g i j)) := by
  intro Γ μ σ H env S x y dx dy d hK R rx ry e Q q
  unfold oI at e
  split at e
  · rename_i i j
    rw [if_pos (show yes2 i j = true from rfl)] at e; cases e; cases rx; cases ry
    exact ⟨i, j, rfl, rfl, q _ H (Same.refl H) (.bl _)⟩
  · cases e
def oSub := oI yes2 fun i j => .int (i - j)
def cMul (i j : Int) : Bool := (decide (-(2 ^ 64) < i) && decide (i < 2 ^ 64)) || (decide (-(2 ^ 64) < j) && decide (j < 2 ^ 64))
def cDiv (_ j : Int) : Bool := decide (0 < j) && decide (j < 2 ^ 64)
def cMod (_ j : Int) : Bool := decide (0 < j)
def cPow (i j : Int) : Bool := decide (0 ≤ j) && decide (j ≤ 1000000) && decide (i.natAbs < 2 ^ 64)
def oDiv := oI cDiv fun i j => .int (i / j)
def oMod := oI cMod fun i j => .int (i % j)
def oPow := oI cPow fun i j => .int (i ^ j.toNat)
def oLt := oI yes2 fun i j => .bl (decide (i < j))
def oLe := oI yes2 fun i j => .bl (decide (i ≤ j))
def oGt := oI yes2 fun i j => .bl (decide (j < i))
def oGe := oI yes2 fun i j => .bl (decide (j ≤ i))
theorem sem_sub {K : PySem.W.Frag} : Sem2 K (rI0 fun i j => .int (i - j)) oSub := sem_I0 _
theorem sem_div {K : PySem.W.Frag} : Sem2 K (rI (fun _ j => 0 < j ∧ j < 2 ^ 64) fun i j => .int (i / j)) oDiv := sem_I _ fun i j h => by simpa [cDiv] using h
theorem sem_mod {K : PySem.W.Frag} : Sem2 K (rI (fun _ j => 0 < j) fun i j => .int (i % j)) oMod := sem_I _ fun i j h => by simpa [cMod] using h
theorem sem_pow {K : PySem.W.Frag} : Sem2 K (rI CPow fun i j => .int (i ^ j.toNat)) oPow := sem_I _ fun i j h => by simpa [cPow, CPow, and_assoc] using h
theorem sem_lt {K : PySem.W.Frag} : Sem2 K (rI0 fun i j => .bl (decide (i < j))) oLt := sem_B0 _
theorem sem_le {K : PySem.W.Frag} : Sem2 K (rI0 fun i j => .bl (decide (i ≤ j))) oLe := sem_B0 _
theorem sem_gt {K : PySem.W.Frag} : Sem2 K (rI0 fun i j => .bl (decide (j < i))) oGt := sem_B0 _
theorem sem_ge {K : PySem.W.Frag} : Sem2 K (rI0 fun i j => .bl (decide (j ≤ i))) oGe := sem_B0 _
def oNeg (_ : Store) : D → Option D
  | .int i => some (.int (-i))
  | _ => none
theorem sem_neg {K : PySem.W.Frag} : Sem1 K (rU fun i => .int (-i)) oNeg := by
  intro Γ μ σ H env S x dx d hK R rx e Q q
  unfold oNeg at e
  split at e
  · cases e; cases rx; exact ⟨_, rfl, q _ H (Same.refl H) (.int _)⟩
  · cases e
def oAdd (S : Store) : D → D → Option D
  | .int i, .int j => some (.int (i + j))
  | .tup a, .tup b => if a.length + b.length ≤ 1000000 then some (.tup (a ++ b)) else none
  | .str x, .str y => if x.length + y.length ≤ 1000000 then some (.str (x ++ y)) else none
  | x, y => (listOf S x).bind fun a => (listOf S y).bind fun b => if a.length + b.length ≤ 1000000 then some (.lst true (a ++ b)) else none
def rCatG : R2 := fun x y H Q => ∃ (a b : Addr) (xs ys : List V), x = .ref a ∧ y = .ref b ∧ H a = some (.tup xs) ∧ H b = some (.tup ys) ∧ xs.length + ys.length ≤ sizeLine ∧ ∀ p H', Same H H' → H' p = some (.tup (xs ++ ys)) → Q (.ref p) H'
def rAddS : R2 := fun x y H Q => ∃ i j, x = .str i ∧ y = .str j ∧ i.length + j.length ≤ sizeLine ∧ Q (.str (i ++ j)) H
def rAdd4 : R2 := fun x y H Q => (rI0 fun i j => .int (i + j)) x y H Q ∨ rCatG x y H Q ∨ rAddS x y H Q ∨ rCat x y H Q
theorem op_add4 {X : Cx} : OpR X (binaryOp .Add) rAdd4 := OpR.or op_add (OpR.or op_catG (OpR.or op_add_str op_cat))
theorem sem_add {K : PySem.W.Frag} : Sem2 K rAdd4 oAdd := by
  intro Γ μ σ H env S x y dx dy d hK R rx ry e Q q
  unfold oAdd at e
  split at e
  · cases e; cases rx; cases ry; exact .inl ⟨_, _, rfl, rfl, q _ H (Same.refl H) (.int _)⟩
  · rename_i a b
    by_cases h : a.length + b.length ≤ 1000000
    · rw [if_pos h] at e; cases e
      cases rx with
      | @tup p xs _ hp rp =>
        cases ry with
        | @tup p2 ys _ hp2 rp2 =>
          refine .inr (.inl ⟨p, p2, xs, ys, rfl, rfl, hp, hp2, by rw [rp.length, rp2.length]; exact Nat.le_of_lt (big h), fun t H' sm ht => ?_⟩)
          obtain ⟨R2, x2⟩ := R.grow sm
          exact q _ H' sm (.tup ht ((rp.append rp2).ext x2))
    · rw [if_neg h] at e; cases e
  · rename_i a b
    by_cases h : a.length + b.length ≤ 1000000
    · rw [if_pos h] at e; cases e; cases rx; cases ry
      exact .inr (.inr (.inl ⟨_, _, rfl, rfl, Nat.le_of_lt (big h), q _ H (Same.refl H) (.str _)⟩))
    · rw [if_neg h] at e; cases e
  · obtain ⟨a, e1, e⟩ := bind_some e
    obtain ⟨b, e2, e⟩ := bind_some e
    by_cases h : a.length + b.length ≤ 1000000
    · rw [if_pos h] at e; cases e
      obtain ⟨p, xs, rfl, hp, rp⟩ := VR.list R rx e1
      obtain ⟨p2, ys, rfl, hp2, rp2⟩ := VR.list R ry e2
      refine .inr (.inr (.inr ⟨p, p2, xs, ys, rfl, rfl, hp, hp2, by rw [rp.length, rp2.length]; exact Nat.le_of_lt (big h), fun t ht => ?_⟩))
      obtain ⟨R2, x2⟩ := R.grow (same_new ht (.lst (xs ++ ys)))
      exact q _ _ (same_new ht _) (.lst (R.ok ht true) (R.dead ht) upd_same ((rp.append rp2).ext x2))
    · rw [if_neg h] at e; cases e
def oMul (S : Store) : D → D → Option D
  | .int i, .int j => if cMul i j = true then some (.int (i * j)) else none
  | .tup a, .int k => if a ≠ [] ∧ 1 ≤ k ∧ k < 2 ^ 60 ∧ a.length * k.toNat ≤ 1000000 then some (.tup (List.replicate k.toNat a).flatten) else none
  | x, .int k => (listOf S x).bind fun a => if -(2 ^ 63) ≤ k ∧ k < 2 ^ 63 ∧ a.length * k.toNat ≤ 1000000 then some (.lst true (List.replicate k.toNat a).flatten) else none
  | _, _ => none
def rMul3 : R2 := fun x y H Q => (rI CMul fun i j => .int (i * j)) x y H Q ∨ rRepG x y H Q ∨ rRep x y H Q
theorem op_mul3 {X : Cx} : OpR X (binaryOp .Mult) rMul3 := OpR.or op_mul (OpR.or op_repG op_rep)
theorem sem_mul {K : PySem.W.Frag} : Sem2 K rMul3 oMul := by
  intro Γ μ σ H env S x y dx dy d hK R rx ry e Q q
  unfold oMul at e
  split at e
  · rename_i i j
    by_cases h : cMul i j = true
    · rw [if_pos h] at e; cases e; cases rx; cases ry
      exact .inl ⟨_, _, rfl, rfl, by simpa [cMul, CMul] using h, q _ H (Same.refl H) (.int _)⟩
    · rw [if_neg h] at e; cases e
  · rename_i a k
    by_cases h : a ≠ [] ∧ 1 ≤ k ∧ k < 2 ^ 60 ∧ a.length * k.toNat ≤ 1000000
    · rw [if_pos h] at e; cases e
      cases ry
      cases rx with
      | @tup p xs _ hp rp =>
        have hl := rp.length
        refine .inr (.inl ⟨p, k, xs, rfl, rfl, hp, fun z => h.1 (List.length_eq_zero_iff.mp (by rw [← hl, z]; rfl)), h.2.1, h.2.2.1, by rw [hl]; exact Nat.le_of_lt (big h.2.2.2), fun t H' sm ht => ?_⟩)
        obtain ⟨R2, x2⟩ := R.grow sm
        exact q _ H' sm (.tup ht ((rp.rep _).ext x2))
    · rw [if_neg h] at e; cases e
  · rename_i k _ _
    obtain ⟨a, e1, e⟩ := bind_some e
    by_cases h : -(2 ^ 63) ≤ k ∧ k < 2 ^ 63 ∧ a.length * k.toNat ≤ 1000000
    · rw [if_pos h] at e; cases e
      cases ry
      obtain ⟨p, xs, rfl, hp, rp⟩ := VR.list R rx e1
      refine .inr (.inr ⟨p, k, xs, rfl, rfl, hp, h.1, h.2.1, by rw [rp.length]; exact Nat.le_of_lt (big h.2.2), fun t ht => ?_⟩)
      obtain ⟨R2, x2⟩ := R.grow (same_new ht (.lst (List.replicate k.toNat xs).flatten))
      exact q _ _ (same_new ht _) (.lst (R.ok ht true) (R.dead ht) upd_same ((rp.rep _).ext x2))
    · rw [if_neg h] at e; cases e
  · cases e
def oIx (S : Store) : D → D → Option D
  | x, .int i => (seqOf S x).bind fun ds => atI ds i
  | _, _ => none
theorem atI_rel {Γ : Fr} {μ : Mu} {H : Hp} {xs : List V} {ds : List D} {i : Int} {d : D} (r : VRs Γ μ H xs ds) (h : atI ds i = some d) : ∃ x, atI xs i = some x ∧ VR Γ μ H x d := by
  unfold atI at h ⊢
  obtain ⟨j, e1, e2⟩ := bind_some h
  obtain ⟨x, f1, f2⟩ := r.get e2
  exact ⟨x, by rw [r.length, e1]; exact f1, f2⟩
theorem sem_ix {K : PySem.W.Frag} : Sem2 K (rIx K) oIx := by
  intro Γ μ σ H env S x y dx dy d hK R rx ry e Q q
  unfold oIx at e
  split at e
  · rename_i i
    obtain ⟨ds, e1, e⟩ := bind_some e
    cases ry
    obtain ⟨a, xs, rfl, hq, rs⟩ := VR.seq hK R rx e1
    obtain ⟨v, f1, f2⟩ := atI_rel rs e
    rcases hq with hq | hq
    · exact .inl ⟨a, xs, i, v, rfl, rfl, hq, f1, q _ H (Same.refl H) f2⟩
    · exact .inr (.inl ⟨a, xs, i, v, rfl, rfl, hq, f1, q _ H (Same.refl H) f2⟩)
  · cases e
def cut (xs : List D) (lo hi : Option Int) : List D := (xs.drop (HT.sIx xs.length 0 lo)).take (HT.sIx xs.length xs.length hi - HT.sIx xs.length 0 lo)
def oSl (S : Store) (x : D) (lo hi : Option Int) : Option D := match x with
  | .tup ds => some (.tup (cut ds lo hi))
  | x => (seqOf S x).map fun ds => .lst true (cut ds lo hi)
def rSlG : V → Option Int → Option Int → Hp → VK → Prop := fun x lo hi H Q => ∃ (a : Addr) (xs : List V), x = .ref a ∧ H a = some (.tup xs) ∧ ∀ p H', Same H H' → H' p = some (.tup (cutV xs lo hi)) → Q (.ref p) H'
def rSl2 (K : PySem.W.Frag) : V → Option Int → Option Int → Hp → VK → Prop := fun x lo hi H Q => rSlG x lo hi H Q ∨ rSlL K x lo hi H Q
theorem sl_two {X : Cx} : SlR X (rSl2 X.K) := SlR.or sl_tupG sl_list
theorem sem_sl {K : PySem.W.Frag} : SemSl K (rSl2 K) oSl := by
  intro Γ μ σ H env S x dx d l h hK R rx e Q q
  have key : ∀ {xs : List V} {ds : List D} {H' : Hp}, VRs Γ μ H' xs ds → VRs Γ μ H' (cutV xs l h) (cut ds l h) := fun r => by
    unfold cutV cut
    rw [r.length]
    exact (r.drop _).take _
  unfold oSl at e
  split at e
  · cases e
    cases rx with
    | @tup p xs _ hp rp =>
      refine .inl ⟨p, xs, rfl, hp, fun t H' sm ht => ?_⟩
      obtain ⟨R2, x2⟩ := R.grow sm
      exact q _ H' sm (.tup ht (key (rp.ext x2)))
  · rename_i ht
    obtain ⟨ds, e1, e2⟩ := map_some e
    subst e2
    rcases VR.seqL hK R rx e1 with ⟨es, z⟩ | ⟨a, xs, rfl, hq, rs⟩
    · exact absurd z (ht es)
    · refine .inr ⟨a, xs, rfl, hq, fun t htt => ?_⟩
      obtain ⟨R2, x2⟩ := R.grow (same_new htt (.lst (cutV xs l h)))
      exact q _ _ (same_new htt _) (.lst (R.ok htt true) (R.dead htt) upd_same (key (rs.ext x2)))
def bLen (S : Store) : List D → Option D
  | [x] => (seqOf S x).map fun ds => .int ds.length
  | _ => none
theorem sem_len {K : PySem.W.Frag} : SemC K (rLen K) bLen := by
  intro Γ μ σ H env S xs ds d hK R rs e Q q
  unfold bLen at e
  split at e
  · obtain ⟨es, e1, e2⟩ := map_some e
    subst e2
    obtain ⟨v, rfl, r⟩ := rs.one
    obtain ⟨a, xs, rfl, hq, rx⟩ := VR.seq hK R r e1
    refine ⟨a, xs, rfl, hq, ?_⟩
    rw [rx.length]
    exact q _ H (Same.refl H) (.int _)
  · cases e
def bTup (S : Store) : List D → Option D
  | [x] => (seqOf S x).map fun ds => .tup ds
  | _ => none
theorem sem_tuple {K : PySem.W.Frag} : SemC K (rTupleOf K) bTup := by
  intro Γ μ σ H env S xs ds d hK R rs e Q q
  unfold bTup at e
  split at e
  · rename_i x
    obtain ⟨es, e1, e2⟩ := map_some e
    subst e2
    obtain ⟨v, rfl, r⟩ := rs.one
    rcases VR.seqL hK R r e1 with ⟨fs, rfl⟩ | ⟨a, xs, rfl, hq, rx⟩
    · cases r with
      | @tup p xs _ hp rp => cases e1; exact ⟨p, xs, rfl, .inr ⟨SqT.of hp, q _ H (Same.refl H) (.tup hp rp)⟩⟩
    · refine ⟨a, xs, rfl, .inl ⟨hq, fun l hl => ?_⟩⟩
      obtain ⟨R2, x2⟩ := R.grow (same_new hl (.tup xs))
      exact q _ _ (same_new hl _) (.tup upd_same (rx.ext x2))
  · cases e
def bAll (S : Store) : List D → Option D
  | [x] => (listOf S x).bind fun ds => (boolsOf ds).map fun bs => .bl (bs.all id)
  | _ => none
where boolsOf : List D → Option (List Bool)
  | [] => some []
  | .bl b :: r => (boolsOf r).map (b :: ·)
  | _ => none
@[simp] theorem boolsOf_map (bs : List Bool) : bAll.boolsOf (bs.map D.bl) = some bs := by
  induction bs with
  | nil => rfl
  | cons b r ih => rw [List.map_cons, bAll.boolsOf, ih]; rfl
theorem boolsOf_rel {Γ : Fr} {μ : Mu} {H : Hp} : ∀ {xs : List V} {ds : List D} {bs : List Bool}, VRs Γ μ H xs ds → bAll.boolsOf ds = some bs → xs = bs.map V.bl
  | _, [], _, .nil, h => by cases h; rfl
  | _, .bl b :: r, bs, .cons q t, h => by
    rw [bAll.boolsOf] at h
    obtain ⟨cs, e1, e2⟩ := map_some h
    subst e2
    cases q
    rw [List.map_cons, boolsOf_rel t e1]
  | _, .non :: _, _, _, h => by cases h
  | _, .int _ :: _, _, _, h => by cases h
  | _, .str _ :: _, _, _, h => by cases h
  | _, .ty _ :: _, _, _, h => by cases h
  | _, .tup _ :: _, _, _, h => by cases h
  | _, .lst _ _ :: _, _, _, h => by cases h
  | _, .ref _ :: _, _, _, h => by cases h
  | _, .scr _ :: _, _, _, h => by cases h
  | _, .emp :: _, _, _, h => by cases h
def rAll (K : PySem.W.Frag) : List V → Hp → VK → Prop := fun xs H Q => ∃ (p : Addr) (bs : List Bool), xs = [.ref p] ∧ SqL K H p (bs.map V.bl) ∧ Q (.bl (bs.all id)) H
theorem sem_all {K : PySem.W.Frag} : SemC K (rAll K) bAll := by
  intro Γ μ σ H env S xs ds d hK R rs e Q q
  unfold bAll at e
  split at e
  · obtain ⟨es, e1, e⟩ := bind_some e
    obtain ⟨bs, e2, e3⟩ := map_some e
    subst e3
    obtain ⟨v, rfl, r⟩ := rs.one
    obtain ⟨a, xs, rfl, ha, rx⟩ := VR.list R r e1
    have := boolsOf_rel rx e2
    subst this
    exact ⟨a, bs, rfl, SqL.of ha, q _ H (Same.refl H) (.bl _)⟩
  · cases e
def bMax2 (_ : Store) : List D → Option D
  | [.int i, .int j] => some (.int (if j > i then j else i))
  | _ => none
def bMin2 (_ : Store) : List D → Option D
  | [.int i, .int j] => some (.int (if j < i then j else i))
  | _ => none
def bInt (_ : Store) : List D → Option D
  | [.int i] => some (.int i)
  | [.bl k] => some (.int (if k then 1 else 0))
  | _ => none
theorem sem_max2 {K : PySem.W.Frag} : SemC K (fun xs H Q => ∃ i j, xs = [.int i, .int j] ∧ Q (.int (if j > i then j else i)) H) bMax2 := by
  intro Γ μ σ H env S xs ds d hK R rs e Q q
  unfold bMax2 at e
  split at e
  · cases e
    obtain ⟨v, u, rfl, r1, r2⟩ := rs.two
    cases r1; cases r2
    exact ⟨_, _, rfl, q _ H (Same.refl H) (.int _)⟩
  · cases e
theorem sem_min2 {K : PySem.W.Frag} : SemC K (fun xs H Q => ∃ i j, xs = [.int i, .int j] ∧ Q (.int (if j < i then j else i)) H) bMin2 := by
  intro Γ μ σ H env S xs ds d hK R rs e Q q
  unfold bMin2 at e
  split at e
  · cases e
    obtain ⟨v, u, rfl, r1, r2⟩ := rs.two
    cases r1; cases r2
    exact ⟨_, _, rfl, q _ H (Same.refl H) (.int _)⟩
  · cases e
theorem sem_int {K : PySem.W.Frag} : SemC K (fun xs H Q => (∃ i, xs = [.int i] ∧ Q (.int i) H) ∨ ∃ k, xs = [.bl k] ∧ Q (.int (if k then 1 else 0)) H) bInt := by
  intro Γ μ σ H env S xs ds d hK R rs e Q q
  unfold bInt at e
  split at e
  · cases e
    obtain ⟨v, rfl, r1⟩ := rs.one
    cases r1
    exact .inl ⟨_, rfl, q _ H (Same.refl H) (.int _)⟩
  · cases e
    obtain ⟨v, rfl, r1⟩ := rs.one
    cases r1
    exact .inr ⟨_, rfl, q _ H (Same.refl H) (.int _)⟩
  · cases e
def SemN (K : PySem.W.Frag) (r : List V → Hp → VK → Prop) (g : Store → List D → Option (List D)) : Prop := ∀ (Γ : Fr) (μ : Mu) (σ : St) (H : Hp) (env : Env) (S : Store) (xs : List V) (ds es : List D), Γ.K = K → Rep Γ μ σ H env S → VRs Γ μ H xs ds → g S ds = some es →
  ∀ Q : VK, (∀ l ys, H l = none → VRs Γ μ H ys es → Q (.ref l) (upd H l (.lst ys))) → r xs H Q
def eNewF (g : Store → List D → Option (List D)) (a : ASem) : ESem := fun env S => (a env S).bind fun p => (g p.2 p.1).map fun es => (.lst true es, p.2)
def eNewS (g : Store → List D → Option (List D)) (a : ASem) : ESem := fun env S => (a env S).bind fun p => (g p.2 p.1).map fun es => (.ref p.2.length, p.2 ++ [some es])
theorem wp_newF {K : PySem.W.Frag} {r : List V → Hp → VK → Prop} {g : Store → List D → Option (List D)} {f : ASem} (hs : SemN K r g) {σ : St} {H : Hp} {Q : VK} (h : wpE K (eNewF g f) σ H Q) : tCB r (wpA K f) σ H Q := by
  obtain ⟨Γ, μ, env, S, d, S', hK, R, e, q⟩ := h
  obtain ⟨⟨x, S1⟩, e1, e⟩ := bind_some e
  obtain ⟨z, e4, e⟩ := map_some e
  cases e
  refine ⟨Γ, μ, env, S, x, S1, hK, R, e1, fun v1 μ1 H1 x1 R1 r1 => ?_⟩
  refine hs Γ μ1 σ H1 env S1 v1 x _ hK R1 r1 e4 Q fun l ys hl ry => ?_
  obtain ⟨R4, x4⟩ := R1.grow (same_new hl (.lst ys))
  exact q _ μ1 _ (x1.trans x4) R4 (.lst (R1.ok hl true) (R1.dead hl) upd_same (ry.ext x4))
theorem wp_newS {K : PySem.W.Frag} {r : List V → Hp → VK → Prop} {g : Store → List D → Option (List D)} {f : ASem} (hs : SemN K r g) {σ : St} {H : Hp} {Q : VK} (h : wpE K (eNewS g f) σ H Q) : tCB r (wpA K f) σ H Q := by
  obtain ⟨Γ, μ, env, S, d, S', hK, R, e, q⟩ := h
  obtain ⟨⟨x, S1⟩, e1, e⟩ := bind_some e
  obtain ⟨z, e4, e⟩ := map_some e
  cases e
  refine ⟨Γ, μ, env, S, x, S1, hK, R, e1, fun v1 μ1 H1 x1 R1 r1 => ?_⟩
  refine hs Γ μ1 σ H1 env S1 v1 x _ hK R1 r1 e4 Q fun l ys hl ry => ?_
  obtain ⟨R4, x4⟩ := R1.laid hl ry
  exact q _ _ _ (x1.trans x4) R4 (ref_new R1.slen)
section
variable {X : Cx} {x : Str} {p pos : Pos} {e : Expr} {es : List Expr} {T : String} {f : ASem} {r : List V → Hp → VK → Prop} {g : Store → List D → Option (List D)}
theorem je_newF (hc : CallR X (.type T) r) (hsm : SemN X.K r g) (hg : Gl X x) (hm : X.mg x = none) (hv : bootBuiltins x = some (.type T)) (ha : JA X (e :: es) f) (hn : x ≠ "__name__" := by decide) (hdb : (x == ("__debug__" : Str)) = false := by decide)
    (he : starEach (e :: es) X.env = (false, eval e X.env) :: starEach es X.env := by rfl) (hpl : (backTo pos (starEach es X.env)).any (·.1) = false := by rfl) : JE X (.Call (.Name x p) (e :: es) [] pos) (eNewF g f) :=
  ⟨PE.imp (pe_callTy hc hg hm hv ha.pa hn hdb he hpl) fun _ _ _ h => wp_newF hsm h⟩
theorem je_newS (hc : CallR X (.type T) r) (hsm : SemN X.K r g) (hg : Gl X x) (hm : X.mg x = none) (hv : bootBuiltins x = some (.type T)) (ha : JA X (e :: es) f) (hn : x ≠ "__name__" := by decide) (hdb : (x == ("__debug__" : Str)) = false := by decide)
    (he : starEach (e :: es) X.env = (false, eval e X.env) :: starEach es X.env := by rfl) (hpl : (backTo pos (starEach es X.env)).any (·.1) = false := by rfl) : JE X (.Call (.Name x p) (e :: es) [] pos) (eNewS g f) :=
  ⟨PE.imp (pe_callTy hc hg hm hv ha.pa hn hdb he hpl) fun _ _ _ h => wp_newS hsm h⟩
end
def nList (S : Store) : List D → Option (List D)
  | [x] => seqOf S x
  | _ => none
theorem sem_list {K : PySem.W.Frag} : SemN K (rListOf K) nList := by
  intro Γ μ σ H env S xs ds es hK R rs e Q q
  unfold nList at e
  split at e
  · obtain ⟨v, rfl, r⟩ := rs.one
    obtain ⟨a, ys, rfl, hq, ry⟩ := VR.seq hK R r e
    exact ⟨a, ys, rfl, hq, fun l hl => q l ys hl ry⟩
  · cases e
end VS
end
section
set_option Elab.async false
set_option maxRecDepth 10000
set_option linter.all false
namespace VS
open PySem PySem.Spec L2
mutual
def toP : D → Option PyData
  | .non => some .none
  | .bl b => some (.bool b)
  | .int i => some (.int i)
  | .str x => some (.str x)
  | .tup ds => (toPL ds).map .tuple
  | .lst _ ds => (toPL ds).map .list
  | .emp => some (.dict [])
  | .ref _ => none
  | .scr _ => none
  | .ty _ => none
def toPL : List D → Option (List PyData)
  | [] => some []
  | d :: r => (toP d).bind fun x => (toPL r).bind fun xs => some (x :: xs)
end
mutual
theorem VR.tr {Γ : Fr} {μ : Mu} {H : Hp} : ∀ {v : V} {d : D} {p : PyData}, VR Γ μ H v d → toP d = some p → Tr (fun _ => True) H v p
  | _, _, _, .non, h => by rw [toP] at h; cases h; exact .non
  | _, _, _, .bl b, h => by rw [toP] at h; cases h; exact .bl b
  | _, _, _, .int i, h => by rw [toP] at h; cases h; exact .int i
  | _, _, _, .str x, h => by rw [toP] at h; cases h; exact .str x
  | _, _, _, .ty _, h => by rw [toP] at h; cases h
  | _, _, _, .tup hb t, h => by
    rw [toP] at h
    obtain ⟨ps, e1, e2⟩ := map_some h
    subst e2
    exact .tup trivial hb (VRs.tr t e1)
  | _, _, _, .lst _ _ hb t, h => by
    rw [toP] at h
    obtain ⟨ps, e1, e2⟩ := map_some h
    subst e2
    exact .lst trivial hb (VRs.tr t e1)
  | _, _, _, .ref _ _, h => by rw [toP] at h; cases h
  | _, _, _, .scrK _, h => by rw [toP] at h; cases h
  | _, _, _, .scrR _ _, h => by rw [toP] at h; cases h
  | _, _, _, .emp _ hb, h => by rw [toP] at h; cases h; exact .dct trivial hb
theorem VRs.tr {Γ : Fr} {μ : Mu} {H : Hp} : ∀ {v : List V} {d : List D} {p : List PyData}, VRs Γ μ H v d → toPL d = some p → TrAll (fun _ => True) H v p
  | _, _, _, .nil, h => by rw [toPL] at h; cases h; exact .nil
  | _, _, _, .cons r t, h => by
    rw [toPL] at h
    obtain ⟨x, e1, h⟩ := bind_some h
    obtain ⟨xs, e2, h⟩ := bind_some h
    cases h
    exact .cons (VR.tr r e1) (VRs.tr t e2)
end
def seeP (S : Store) (d : D) : Option PyData := (den 0 S d).bind toP
theorem VR.see {Γ : Fr} {μ : Mu} {σ : St} {H : Hp} {env : Env} {S : Store} {v : V} {d : D} {p : PyData} (R : Rep Γ μ σ H env S) (r : VR Γ μ H v d) (h : seeP S d = some p) : Tr (fun _ => True) H v p := by
  obtain ⟨e, e1, e2⟩ := bind_some h
  have r1 : VR ⟨Γ.K, fun _ => none, fun _ => True, []⟩ [] H v e := VR.den (Γ' := ⟨Γ.K, fun _ => none, fun _ => True, []⟩) R rfl (fun i ds a _ hs => ⟨hs, fun z => ⟨live_nil, ⟨fun _ => rfl, .inl trivial⟩⟩⟩) (fun m a _ _ => ⟨fun _ => rfl, .inl trivial⟩) (fun a o _ _ => live_nil) r e1
  exact r1.tr e2
def eqP (neg : Bool) (S : Store) (x y : D) : Option D := (seeP S x).bind fun p => (seeP S y).bind fun q => if (SeqAt.shaped p && SeqAt.shaped q) = true then some (.bl (neg ^^ PyData.eqv p q)) else none
def oEq (neg : Bool) (S : Store) : D → D → Option D
  | .int i, .int j => some (.bl (neg ^^ decide (i = j)))
  | x, y => eqP neg S x y
def rEqD : R2 := fun x y H Q => ∃ (N N' : Addr → Prop) (d e : PyData), Tr N H x d ∧ Tr N' H y e ∧ SeqAt.shaped d = true ∧ SeqAt.shaped e = true ∧ Q (.bl (PyData.eqv d e)) H
def rNeD : R2 := fun x y H Q => ∃ (N N' : Addr → Prop) (d e : PyData), Tr N H x d ∧ Tr N' H y e ∧ SeqAt.shaped d = true ∧ SeqAt.shaped e = true ∧ Q (.bl (!PyData.eqv d e)) H
def rEq2 : R2 := fun x y H Q => rEq x y H Q ∨ rEqD x y H Q
def rNe2 : R2 := fun x y H Q => rNe x y H Q ∨ rNeD x y H Q
theorem op_eq2 {X : Cx} {k : Nat} (hr : Room k X.A) : OpR X (compareOp .Eq) rEq2 := OpR.or op_eq (op_eqD hr)
theorem op_ne2 {X : Cx} {k : Nat} (hr : Room k X.A) : OpR X (compareOp .NotEq) rNe2 := OpR.or op_ne (op_neD hr)
theorem sem_eq {K : PySem.W.Frag} : Sem2 K rEq2 (oEq false) := by
  intro Γ μ σ H env S x y dx dy d hK R rx ry e Q q
  unfold oEq at e
  split at e
  · rename_i i j
    cases e; cases rx; cases ry
    refine .inl ⟨rfl, ?_⟩
    have : decide (V.int i = V.int j) = decide (i = j) := by simp
    rw [this]
    exact q _ H (Same.refl H) (by simpa using VR.bl (decide (i = j)))
  · unfold eqP at e
    obtain ⟨p, e1, e⟩ := bind_some e
    obtain ⟨p2, e2, e⟩ := bind_some e
    by_cases h : (SeqAt.shaped p && SeqAt.shaped p2) = true
    · rw [if_pos h] at e
      cases e
      rw [Bool.and_eq_true] at h
      exact .inr ⟨_, _, p, p2, rx.see R e1, ry.see R e2, h.1, h.2, q _ H (Same.refl H) (by simpa using VR.bl (PyData.eqv p p2))⟩
    · rw [if_neg h] at e; cases e
theorem sem_ne {K : PySem.W.Frag} : Sem2 K rNe2 (oEq true) := by
  intro Γ μ σ H env S x y dx dy d hK R rx ry e Q q
  unfold oEq at e
  split at e
  · rename_i i j
    cases e; cases rx; cases ry
    refine .inl ⟨rfl, ?_⟩
    have : decide (V.int i = V.int j) = decide (i = j) := by simp
    rw [this]
    exact q _ H (Same.refl H) (by simpa using VR.bl (!decide (i = j)))
  · unfold eqP at e
    obtain ⟨p, e1, e⟩ := bind_some e
    obtain ⟨p2, e2, e⟩ := bind_some e
    by_cases h : (SeqAt.shaped p && SeqAt.shaped p2) = true
    · rw [if_pos h] at e
      cases e
      rw [Bool.and_eq_true] at h
      exact .inr ⟨_, _, p, p2, rx.see R e1, ry.see R e2, h.1, h.2, q _ H (Same.refl H) (by simpa using VR.bl (!PyData.eqv p p2))⟩
    · rw [if_neg h] at e; cases e
def oTab (D : List (PyData × PyData)) (_ : Store) : VS.D → Option VS.D
  | .int i => some (.bl (lookup (.int i) D).isSome)
  | _ => none
def oTabAt (D : List (PyData × PyData)) (_ : Store) : VS.D → Option VS.D
  | .int i => match lookup (.int i) D with | some (.int j) => some (.int j) | _ => none
  | _ => none
section
variable {X : Cx} {a : Expr} {fa : ESem} {x : Str} {p pos : Pos} {dM : Addr} {D : List (PyData × PyData)}
theorem wp_tab {K : PySem.W.Frag} {σ : St} {H : Hp} {Q : VK} (h : wpE K (eUn (oTab D) fa) σ H Q) : tOp (fun x y H Q => ∃ (i : Int), x = .int i ∧ y = .ref dM ∧ Q (.bl (lookup (.int i) D).isSome) H) (wpE K fa) (tC (.ref dM)) σ H Q := by
  obtain ⟨Γ, μ, env, S, d, S', hK, R, e, q⟩ := h
  obtain ⟨⟨y, S1⟩, e1, e⟩ := bind_some e
  obtain ⟨z, e3, e⟩ := map_some e
  cases e
  refine ⟨Γ, μ, env, S, y, S1, hK, R, e1, fun v1 μ1 H1 x1 R1 r1 => ?_⟩
  dsimp only at e3
  unfold oTab at e3
  split at e3
  · cases e3; cases r1; exact ⟨_, rfl, rfl, q _ μ1 H1 x1 R1 (.bl _)⟩
  · cases e3
theorem je_inTab (hT : ∀ h, X.K.In h → PyProof.Rows.IntTab X.prog X.w h dM D) (ha : JE X a fa) (hg : Gl X x) (hm : X.mg x = some (.ref dM)) (hk : behindInMarks .In (.Name x p) = false := by with_unfolding_all rfl) (hd : (x == ("__debug__" : Str)) = false := by decide) : JE X (.Compare a [.In] [.Name x p] pos) (eUn (oTab D) fa) :=
  ⟨PE.imp (pe_cmpR (op_inTab hT) ha.pe (pe_glob (v := .ref dM) hg hm rfl hd) hk) fun _ _ _ h => wp_tab h⟩
theorem je_ixTab (hT : ∀ h, X.K.In h → PyProof.Rows.IntTab X.prog X.w h dM D) (hb : JE X a fa) (hg : Gl X x) (hm : X.mg x = some (.ref dM)) (hs : PlainIx a) (hd : (x == ("__debug__" : Str)) = false := by decide)
    (hgo : ∀ r, letTemporaryGo (.Name x p) (.ref dM) r = pure () := by intro _; with_unfolding_all rfl) : JE X (.Subscript (.Name x p) a pos) (eUn (oTabAt D) fa) :=
  ⟨PE.imp (pe_ixTab hT (pe_glob (v := .ref dM) hg hm rfl hd) hb.pe hs hgo) fun σ H Q h => by
    obtain ⟨Γ, μ, env, S, d, S', hK, R, e, q⟩ := h
    obtain ⟨⟨y, S1⟩, e1, e⟩ := bind_some e
    obtain ⟨z, e3, e⟩ := map_some e
    cases e
    refine ⟨Γ, μ, env, S, y, S1, hK, R, e1, fun v1 μ1 H1 x1 R1 r1 => ?_⟩
    dsimp only at e3
    unfold oTabAt at e3
    split at e3
    · split at e3
      · rename_i hl
        cases e3; cases r1; exact ⟨_, _, rfl, rfl, hl, q _ μ1 H1 x1 R1 (.int _)⟩
      · cases e3
    · cases e3⟩
end
def isT (T : String) (d : PyData) : Bool := match T with
  | "str" => (match d with | .str _ => true | _ => false)
  | T => isTy T d
theorem kit_str {K : PySem.W.Frag} (d : PyData) : PySem.W.kitOne K (.type (tyName d)) (.type "str") = some (isT "str" d) := by
  cases d with
  | none => exact kit_ty (a := "NoneType") (r := false) (by decide +kernel)
  | bool _ => exact kit_ty (a := "bool") (r := false) (by decide +kernel)
  | int _ => exact kit_ty (a := "int") (r := false) (by decide +kernel)
  | str _ => exact kit_ty (a := "str") (r := true) (by decide +kernel)
  | list _ => exact kit_ty (a := "list") (r := false) (by decide +kernel)
  | tuple _ => exact kit_ty (a := "tuple") (r := false) (by decide +kernel)
  | dict _ => exact kit_ty (a := "dict") (r := false) (by decide +kernel)
def bIsT (S : Store) : List D → Option D
  | [x, .ty "int"] => (seeP S x).map fun p => .bl (isT "int" p)
  | [x, .ty "bool"] => (seeP S x).map fun p => .bl (isT "bool" p)
  | [x, .ty "tuple"] => (seeP S x).map fun p => .bl (isT "tuple" p)
  | [x, .ty "list"] => (seeP S x).map fun p => .bl (isT "list" p)
  | [x, .ty "str"] => (seeP S x).map fun p => .bl (isT "str" p)
  | [x, .tup [.ty "tuple", .ty "list"]] => (seeP S x).bind fun p => if noDict p = true then some (.bl (isSeq p)) else none
  | _ => none
def rIsT (K : PySem.W.Frag) : List V → Hp → VK → Prop := fun xs H Q => ∃ (x : V) (T : String) (t : Value) (b : Bool), xs = [x, .ty T] ∧ TyOf K H x t ∧ PySem.W.kitOne K t (.type T) = some b ∧ Q (.bl b) H
def rIsTL : List V → Hp → VK → Prop := fun xs H Q => ∃ (N : Addr → Prop) (x : V) (d : PyData) (p : Addr), xs = [x, .ref p] ∧ H p = some (.tup [.ty "tuple", .ty "list"]) ∧ Tr N H x d ∧ noDict d = true ∧ Q (.bl (isSeq d)) H
def rIsT2 (K : PySem.W.Frag) : List V → Hp → VK → Prop := fun xs H Q => rIsT K xs H Q ∨ rIsTL xs H Q
theorem call_isT {X : Cx} : CallR X (.builtin "isinstance") (rIsT2 X.K) := CallR.or call_isinst call_isinstTL
theorem sem_isT {K : PySem.W.Frag} : SemC K (rIsT2 K) bIsT := by
  intro Γ μ σ H env S xs ds d hK R rs e Q q
  have go : ∀ (T : String) (x : D), (∀ p : PyData, PySem.W.kitOne K (.type (tyName p)) (.type T) = some (isT T p)) → ds = [x, .ty T] → ((seeP S x).map fun p => D.bl (isT T p)) = some d → rIsT2 K xs H Q := fun T x hk hd e' => by
    subst hd
    obtain ⟨p, e1, e2⟩ := map_some e'
    subst e2
    obtain ⟨v, u, rfl, r1, r2⟩ := rs.two
    cases r2
    exact .inl ⟨v, T, _, _, rfl, (r1.see R e1).ty, hk p, q _ H (Same.refl H) (.bl _)⟩
  unfold bIsT at e
  split at e
  · exact go "int" _ kit_int rfl e
  · exact go "bool" _ kit_bool rfl e
  · exact go "tuple" _ kit_tuple rfl e
  · exact go "list" _ kit_list rfl e
  · exact go "str" _ kit_str rfl e
  · obtain ⟨p, e1, e⟩ := bind_some e
    by_cases h : noDict p = true
    · rw [if_pos h] at e
      cases e
      obtain ⟨v, u, rfl, r1, r2⟩ := rs.two
      cases r2 with
      | @tup a ys _ ha ry =>
        cases ry with
        | cons q1 t1 =>
          cases t1 with
          | cons q2 t2 =>
            cases t2; cases q1; cases q2
            exact .inr ⟨_, v, p, a, rfl, ha, r1.see R e1, h, q _ H (Same.refl H) (.bl _)⟩
    · rw [if_neg h] at e; cases e
  · cases e
def bRepr (S : Store) : List D → Option D
  | [x] => (seeP S x).bind fun p => if (p.showable && decide (p.depth ≤ 60) && decide (p.shown.length ≤ 1000000)) = true then some (.str p.shown) else none
  | _ => none
def rRepr : List V → Hp → VK → Prop := fun xs H Q => ∃ (N : Addr → Prop) (v : V) (d : PyData), xs = [v] ∧ Tr N H v d ∧ d.showable = true ∧ d.depth ≤ 60 ∧ d.shown.length ≤ sizeLine ∧ Q (.str d.shown) H
theorem sem_repr {K : PySem.W.Frag} : SemC K rRepr bRepr := by
  intro Γ μ σ H env S xs ds d hK R rs e Q q
  unfold bRepr at e
  split at e
  · obtain ⟨p, e1, e⟩ := bind_some e
    by_cases h : (p.showable && decide (p.depth ≤ 60) && decide (p.shown.length ≤ 1000000)) = true
    · rw [if_pos h] at e
      cases e
      simp only [Bool.and_eq_true, decide_eq_true_eq] at h
      obtain ⟨v, rfl, r1⟩ := rs.one
      exact ⟨_, v, p, rfl, r1.see R e1, h.1.1, h.1.2, Nat.le_of_lt (big h.2), q _ H (Same.refl H) (.str _)⟩
    · rw [if_neg h] at e; cases e
  · cases e
def eListRange (a : ASem) : ESem := fun env S => (a env S).bind fun p => match p.1 with
  | [.int j] => if r62 j ∧ j.toNat ≤ 1000 then some (.lst true (upD 0 j.toNat), p.2) else none
  | [.int i, .int j] => if r62 i ∧ r62 j ∧ (j - i).toNat ≤ 1000 then some (.lst true (upD i (j - i).toNat), p.2) else none
  | _ => none
theorem upD_rel {Γ : Fr} {μ : Mu} {H : Hp} (lo : Int) (n : Nat) : VRs Γ μ H ((upTo lo n).map V.int) (upD lo n) := by
  have : upD lo n = (upTo lo n).map D.int := by unfold upD L2.upTo; rw [List.map_map]; rfl
  rw [this]; exact VRs.ints _
def rRange12 : List V → Hp → VK → Prop := fun xs H Q => (∃ (n : Int), xs = [.int n] ∧ ∀ p, H p = none → Q (.ref p) (upd H p (.rng 0 n))) ∨ ∃ (a b : Int), xs = [.int a, .int b] ∧ ∀ p, H p = none → Q (.ref p) (upd H p (.rng a b))
theorem call_range12 {X : Cx} : CallR X (.type "range") rRange12 := CallR.or call_range1 call_range2
theorem wp_listRange {K : PySem.W.Frag} {f : ASem} {σ : St} {H : Hp} {Q : VK} (h : ∃ Γ μ env S ds S', Γ.K = K ∧ Rep Γ μ σ H env S ∧ f env S = some (ds, S') ∧ ∃ lo n, ((∃ j, ds = [.int j] ∧ r62 j ∧ j.toNat ≤ 1000 ∧ lo = 0 ∧ n = j.toNat) ∨ ∃ i j, ds = [.int i, .int j] ∧ r62 i ∧ r62 j ∧ (j - i).toNat ≤ 1000 ∧ lo = i ∧ n = (j - i).toNat) ∧
      ∀ μ' H', Ext μ H μ' H' → Rep Γ μ' σ H' env S' → ∀ l, H' l = none → Q (.ref l) (upd H' l (.lst ((upTo lo n).map V.int)))) :
    tCB (fun xs H Q => ∃ (r : Addr) (lo hi : Int), xs = [.ref r] ∧ H r = some (.rng lo hi) ∧ -(2 ^ 62) ≤ lo ∧ lo < 2 ^ 62 ∧ -(2 ^ 62) ≤ hi ∧ hi < 2 ^ 62 ∧ (hi - lo).toNat ≤ 1000 ∧ ∀ l, H l = none → Q (.ref l) (upd H l (.lst ((upTo lo (hi - lo).toNat).map V.int)))) (tCons (tCB rRange12 (wpA K f)) tNil) σ H Q := by
  obtain ⟨Γ, μ, env, S, ds, S', hK, R, e1, lo, n, hc, q⟩ := h
  refine ⟨Γ, μ, env, S, ds, S', hK, R, e1, fun vs μ1 H1 x1 R1 r1 => ?_⟩
  rcases hc with ⟨j, rfl, h1, h2, rfl, rfl⟩ | ⟨i, j, rfl, h1, h2, h3, rfl, rfl⟩
  · obtain ⟨v, rfl, r⟩ := r1.one
    cases r
    refine .inl ⟨j, rfl, fun p hp => ⟨p, 0, j, rfl, upd_same, by decide, by decide, h1.1, h1.2, by simpa using h2, fun l hl => ?_⟩⟩
    obtain ⟨R2, x2⟩ := R1.grow (same_new hp (.rng 0 j))
    have := q μ1 _ (x1.trans x2) R2 l hl
    simpa using this
  · obtain ⟨v, u, rfl, r, r'⟩ := r1.two
    cases r
    cases r'
    refine .inr ⟨lo, j, rfl, fun p hp => ⟨p, lo, j, rfl, upd_same, h1.1, h1.2, h2.1, h2.2, h3, fun l hl => ?_⟩⟩
    obtain ⟨R2, x2⟩ := R1.grow (same_new hp (.rng lo j))
    exact q μ1 _ (x1.trans x2) R2 l hl
section
variable {X : Cx} {a : Expr} {as : List Expr} {f : ASem} {p p2 pos pos2 : Pos}
theorem je_listRange (hc : X.calm = true) (ha : JA X (a :: as) f) (hg : Gl X "list") (hm : X.mg "list" = none) (hg2 : Gl X "range") (hm2 : X.mg "range" = none)
    (he : starEach (a :: as) X.env = (false, eval a X.env) :: starEach as X.env := by rfl) (hpl : (backTo pos2 (starEach as X.env)).any (·.1) = false := by rfl) (he2 : starEach [.Call (.Name "range" p2) (a :: as) [] pos2] X.env = [(false, eval (.Call (.Name "range" p2) (a :: as) [] pos2) X.env)] := by rfl) :
    JE X (.Call (.Name "list" p) [.Call (.Name "range" p2) (a :: as) [] pos2] [] pos) (eListRange f) :=
  ⟨PE.imp (pe_callTy (call_listRange hc) hg hm bt_list (pa_cons (pe_callTy call_range12 hg2 hm2 bt_range ha.pa (he := he) (hpl := hpl)) pa_nil he2) (he := he2) (hpl := rfl)) fun σ H Q h => by
    obtain ⟨Γ, μ, env, S, d, S', hK, R, e, q⟩ := h
    obtain ⟨⟨ds, S1⟩, e1, e⟩ := bind_some e
    refine wp_listRange ⟨Γ, μ, env, S, ds, S1, hK, R, e1, ?_⟩
    have fin : ∀ lo n, d = .lst true (upD lo n) → S1 = S' → ∀ μ' H', Ext μ H μ' H' → Rep Γ μ' σ H' env S1 → ∀ l, H' l = none → Q (.ref l) (upd H' l (.lst ((upTo lo n).map V.int))) := fun lo n hd hs μ' H' x' R' l hl => by
      subst hd hs
      obtain ⟨R2, x2⟩ := R'.grow (same_new hl (.lst ((upTo lo n).map V.int)))
      exact q _ μ' _ (x'.trans x2) R2 (.lst (R'.ok hl true) (R'.dead hl) upd_same (upD_rel lo n))
    dsimp only at e
    split at e
    · rename_i j
      by_cases hj : r62 j ∧ j.toNat ≤ 1000
      · rw [if_pos hj] at e; cases e
        exact ⟨0, _, .inl ⟨j, rfl, hj.1, hj.2, rfl, rfl⟩, fin _ _ rfl rfl⟩
      · rw [if_neg hj] at e; cases e
    · rename_i i j
      by_cases hj : r62 i ∧ r62 j ∧ (j - i).toNat ≤ 1000
      · rw [if_pos hj] at e; cases e
        exact ⟨i, _, .inr ⟨i, j, rfl, hj.1, hj.2.1, hj.2.2, rfl, rfl⟩, fin _ _ rfl rfl⟩
      · rw [if_neg hj] at e; cases e
    · cases e⟩
end
end VS
end
section
set_option Elab.async false
set_option maxRecDepth 10000
set_option linter.all false
namespace VS
open PySem PySem.Spec L2
def spLawV (K : PySem.W.Frag) : Sp := fun vs H Q _ => ∃ (l : Addr) (ns : List Int), vs = [.ref l] ∧ Only H ∧ ns.length ≤ 63 ∧ SqL K H l (ns.map V.int) ∧ ∀ H', Q (.bl true) H'
theorem law_sp {K : PySem.W.Frag} {sem : PSem} (h : ∀ ns : List Int, ns.length ≤ 63 → sem [.scr ns] = some (.bl true)) : ∀ vs H Q E, spLawV K vs H Q E → spP K sem 1 vs H Q E := by
  intro vs H Q E ⟨l, ns, e, hO, hl, hq, q⟩
  subst e
  refine ⟨fun _ => False, [.scr ns], .bl true, rfl, .cons ?_ .nil, h ns hl, fun v H' sm rv => ?_⟩
  · rcases hq with hq | hq
    · rcases hq with hq | ⟨o, hq⟩
      · rcases hO l with z | ⟨o, xs, z⟩
        · rw [z] at hq; cases hq
        · rw [z] at hq; cases hq
      · exact .scrR live_nil hq
    · exact .scrK fun H' => .inr hq
  · cases rv; exact q H'
end VS
end
section
set_option Elab.async false
set_option maxRecDepth 10000
set_option linter.all false
namespace VS
open PySem L2
theorem sSeq_eq (a b : SSem) (env : VS.Env) (S : Store) : VS.sSeq a b env S = (a env S).bind fun p => match p.1 with | .nx => b p.2.1 p.2.2 | f => some (f, p.2.1, p.2.2) := rfl
theorem sSet_eq (i : Nat) (a : ESem) (env : VS.Env) (S : Store) : VS.sSet i a env S = (a env S).bind fun p => some (.nx, env.set i (some p.1), p.2) := rfl
theorem sRet_eq (a : ESem) (env : VS.Env) (S : Store) : VS.sRet a env S = (a env S).bind fun p => some (.ret p.1, env, p.2) := rfl
theorem sIf_eq (c : TSem) (a b : SSem) (env : VS.Env) (S : Store) : VS.sIf c a b env S = (c env S).bind fun p => if p.1 = true then a env p.2 else b env p.2 := rfl
theorem sAsg_eq (a : ESem) (g : GSem) (env : VS.Env) (S : Store) : VS.sAsg a g env S = (a env S).bind fun p => (g p.1 env).bind fun e => some (.nx, e, p.2) := rfl
theorem sExp_eq (a : ESem) (env : VS.Env) (S : Store) : VS.sExp a env S = (a env S).bind fun p => some (.nx, env, p.2) := rfl
theorem sNil_eq (env : VS.Env) (S : Store) : VS.sNil  env S = some (.nx, env, S) := rfl
theorem sNever_eq (env : VS.Env) (S : Store) : VS.sNever  env S = none := rfl
theorem sFor_eq (it : ISem) (g : GSem) (b : SSem) (env : VS.Env) (S : Store) : VS.sFor it g b env S = (it env S).bind fun p => loop p.1.2 g b p.1.1 env p.2 := rfl
theorem sSetIx_eq (v o i : ESem) (env : VS.Env) (S : Store) : VS.sSetIx v o i env S = (v env S).bind fun p => (o env p.2).bind fun q => (i env q.2).bind fun r => match q.1, r.1 with
  | .ref j, .int k => (match r.2[j]? with
    | some (some ds) => (ixN ds.length k).bind fun n => some (.nx, env, r.2.set j (some (ds.set n p.1)))
    | _ => none)
  | _, _ => none := rfl
theorem eVar_eq (i : Nat) (env : VS.Env) (S : Store) : VS.eVar i env S = (env[i]?.join).map fun d => (d, S) := rfl
theorem eC_eq (d : D) (env : VS.Env) (S : Store) : VS.eC d env S = some (d, S) := rfl
theorem eOp_eq (g : Store → D → D → Option D) (a b : ESem) (env : VS.Env) (S : Store) : VS.eOp g a b env S = (a env S).bind fun p => (b env p.2).bind fun q => (g q.2 p.1 q.1).map fun d => (d, q.2) := rfl
theorem eUn_eq (g : Store → D → Option D) (a : ESem) (env : VS.Env) (S : Store) : VS.eUn g a env S = (a env S).bind fun p => (g p.2 p.1).map fun d => (d, p.2) := rfl
theorem aNil_eq (env : VS.Env) (S : Store) : VS.aNil  env S = some ([], S) := rfl
theorem aCons_eq (a : ESem) (r : ASem) (env : VS.Env) (S : Store) : VS.aCons a r env S = (a env S).bind fun p => (r env p.2).bind fun q => some (p.1 :: q.1, q.2) := rfl
theorem eCB_eq (g : Store → List D → Option D) (a : ASem) (env : VS.Env) (S : Store) : VS.eCB g a env S = (a env S).bind fun p => (g p.2 p.1).map fun d => (d, p.2) := rfl
theorem eAnd_eq (a b : ESem) (env : VS.Env) (S : Store) : VS.eAnd a b env S = (a env S).bind fun p => match p.1 with | .bl true => b env p.2 | .bl false => some (.bl false, p.2) | _ => none := rfl
theorem eNot_eq (a : ESem) (env : VS.Env) (S : Store) : VS.eNot a env S = (a env S).bind fun p => match p.1 with | .bl c => some (.bl (!c), p.2) | _ => none := rfl
theorem eChain_eq (g g' : Store → D → D → Option D) (a b c : ESem) (env : VS.Env) (S : Store) : VS.eChain g g' a b c env S = (a env S).bind fun p => (b env p.2).bind fun q => (g q.2 p.1 q.1).bind fun z => match z with
  | .bl true => (c env q.2).bind fun r => (g' r.2 q.1 r.1).map fun d => (d, r.2)
  | .bl false => some (.bl false, q.2)
  | _ => none := rfl
theorem tVal_eq (a : ESem) (env : VS.Env) (S : Store) : VS.tVal a env S = (a env S).bind fun p => match p.1 with | .bl c => some (c, p.2) | _ => none := rfl
theorem tAnd_eq (a b : TSem) (env : VS.Env) (S : Store) : VS.tAnd a b env S = (a env S).bind fun p => if p.1 = true then b env p.2 else some (false, p.2) := rfl
theorem tOr_eq (a b : TSem) (env : VS.Env) (S : Store) : VS.tOr a b env S = (a env S).bind fun p => if p.1 = true then some (true, p.2) else b env p.2 := rfl
theorem tNot_eq (a : TSem) (env : VS.Env) (S : Store) : VS.tNot a env S = (a env S).bind fun p => some (!p.1, p.2) := rfl
theorem oNone_eq (env : VS.Env) (S : Store) : VS.oNone  env S = some (none, S) := rfl
theorem oSome_eq (a : ESem) (env : VS.Env) (S : Store) : VS.oSome a env S = (a env S).bind fun p => match p.1 with | .int i => some (some i, p.2) | _ => none := rfl
theorem eSl_eq (g : Store → D → Option Int → Option Int → Option D) (a : ESem) (l h : OSem) (env : VS.Env) (S : Store) : VS.eSl g a l h env S = (a env S).bind fun p => (l env p.2).bind fun q => (h env q.2).bind fun r => (g r.2 p.1 q.1 r.1).map fun d => (d, r.2) := rfl
theorem eFrz_eq (a : ASem) (env : VS.Env) (S : Store) : VS.eFrz a env S = (a env S).bind fun p => some (.lst true p.1, p.2) := rfl
theorem eSto_eq (a : ASem) (env : VS.Env) (S : Store) : VS.eSto a env S = (a env S).bind fun p => some (.ref p.2.length, p.2 ++ [some p.1]) := rfl
theorem eTup_eq (a : ASem) (env : VS.Env) (S : Store) : VS.eTup a env S = (a env S).bind fun p => some (.tup p.1, p.2) := rfl
theorem eCallP_eq (sem : PSem) (a : ASem) (env : VS.Env) (S : Store) : VS.eCallP sem a env S = (a env S).bind fun p => (denL 0 p.2 p.1).bind fun ds => (sem (ageL ds)).bind fun r => if (pureL p.1 || newD r) = true then some (r, p.2) else none := rfl
theorem eCallM_eq (sem : MSem) (a : ASem) (env : VS.Env) (S : Store) : VS.eCallM sem a env S = (a env S).bind fun p => match p.1 with
  | .ref i :: rest => (match p.2[i]? with
    | some (some cs) => (intsOf cs).bind fun ns => (denL 0 (p.2.set i none) rest).bind fun ds => (sem ns (ageL ds)).bind fun r => if (pureL rest || newD r.1) = true then some (r.1, p.2.set i (some (r.2.map D.int))) else none
    | _ => none)
  | _ => none := rfl
theorem eThawP_eq (sem : PSem) (a : ASem) (env : VS.Env) (S : Store) : VS.eThawP sem a env S = (eCallP sem a env S).bind fun p => (thaw p.2.length p.1).bind fun q => some (q.1, p.2 ++ [some q.2]) := rfl
theorem eThawM_eq (sem : MSem) (a : ASem) (env : VS.Env) (S : Store) : VS.eThawM sem a env S = (eCallM sem a env S).bind fun p => (thaw p.2.length p.1).bind fun q => some (q.1, p.2 ++ [some q.2]) := rfl
theorem eMeth_eq (g : Store → D → List D → Option (D × Store)) (o : ESem) (a : ASem) (env : VS.Env) (S : Store) : VS.eMeth g o a env S = (o env S).bind fun p => if (listOf p.2 p.1).isSome then (a env p.2).bind fun q => g q.2 p.1 q.1 else none := rfl
theorem eNewF_eq (g : Store → List D → Option (List D)) (a : ASem) (env : VS.Env) (S : Store) : VS.eNewF g a env S = (a env S).bind fun p => (g p.2 p.1).map fun es => (.lst true es, p.2) := rfl
theorem eNewS_eq (g : Store → List D → Option (List D)) (a : ASem) (env : VS.Env) (S : Store) : VS.eNewS g a env S = (a env S).bind fun p => (g p.2 p.1).map fun es => (.ref p.2.length, p.2 ++ [some es]) := rfl
theorem eListRange_eq (a : ASem) (env : VS.Env) (S : Store) : VS.eListRange a env S = (a env S).bind fun p => match p.1 with
  | [.int j] => if r62 j ∧ j.toNat ≤ 1000 then some (.lst true (upD 0 j.toNat), p.2) else none
  | [.int i, .int j] => if r62 i ∧ r62 j ∧ (j - i).toNat ≤ 1000 then some (.lst true (upD i (j - i).toNat), p.2) else none
  | _ => none := rfl
theorem iSeq_eq (a : ESem) (env : VS.Env) (S : Store) : VS.iSeq a env S = (a env S).bind fun p => (seqOf p.2 p.1).map fun ds => ((ds, idOf ds p.1), p.2) := rfl
theorem iZipS_eq (a : ASem) (env : VS.Env) (S : Store) : VS.iZipS a env S = (a env S).bind fun p => match p.1 with
  | [.tup xs, .tup ys] => some ((zipD xs ys, []), p.2)
  | [x, .tup ys] => (VS.listOf p.2 x).bind fun xs => some ((zipD xs ys, VS.idOf xs x), p.2)
  | [x, y] => (listOf p.2 x).bind fun xs => (listOf p.2 y).bind fun ys => some ((zipD xs ys, idOf xs x ++ idOf ys y), p.2)
  | _ => none := rfl
theorem runP_eq (np n : Nat) (f : SSem) (ds : List D) : VS.runP np n f ds = if ds.length = np then (f (ds.map some ++ List.replicate (n - ds.length) none) []).bind fun p => match p.1 with | .ret d => den 0 p.2.2 d | .nx => some .non | _ => none else none := rfl
theorem runM_eq (np n : Nat) (f : SSem) (ns : List Int) (ds : List D) : VS.runM np n f ns ds = if ds.length + 1 = np then (f (some (.ref 0) :: (ds.map some ++ List.replicate (n - 1 - ds.length) none)) [some (ns.map D.int)]).bind fun p => match p.2.2[0]? with
  | some (some cs) => (intsOf cs).bind fun ms => (match p.1 with | .ret d => (den 1 p.2.2 d).map fun r => (r, ms) | .nx => some (.non, ms) | _ => none)
  | _ => none
  else none := rfl
theorem pat_nm (i : Nat) (d : D) (env : VS.Env) : Pat.sem (.nm i) d env = some (env.set i (some d)) := by rw [Pat.sem]
theorem pat_tp (ps : List Pat) (ds : List D) (env : VS.Env) : Pat.sem (.tp ps) (.tup ds) env = semS ps ds env := by rw [Pat.sem]
theorem pats_nil (env : VS.Env) : semS [] [] env = some env := by rw [semS]
theorem pats_cons (p : Pat) (ps : List Pat) (d : D) (ds : List D) (env : VS.Env) : semS (p :: ps) (d :: ds) env = (Pat.sem p d env).bind fun e => semS ps ds e := by rw [semS]
@[simp] theorem calm_nil (S : Store) : calm [] S = True := by simp [calm]
@[simp] theorem calm_one (i : Nat) (ds : List D) (S : Store) : calm [(i, ds)] S = (S[i]? = some (some ds)) := by simp [calm]
@[simp] theorem at_new {α : Type} (S : List α) (a : α) : (S ++ [a])[S.length]? = some a := by simp
@[simp] theorem set_new {α : Type} (S : List α) (a b : α) : (S ++ [a]).set S.length b = S ++ [b] := by simp
theorem ixN_nat {n k : Nat} (h : k < n) : ixN n (k : Int) = some k := by
  unfold ixN
  rw [if_pos (by omega), if_pos (by omega)]; simp
@[simp] theorem ixN_0 {n : Nat} : ixN (n + 1) 0 = some 0 := ixN_nat (k := 0) (by omega)
@[simp] theorem ixN_1 {n : Nat} : ixN (n + 2) 1 = some 1 := ixN_nat (k := 1) (by omega)
@[simp] theorem ixN_2 {n : Nat} : ixN (n + 3) 2 = some 2 := ixN_nat (k := 2) (by omega)
@[simp] theorem ixN_3 {n : Nat} : ixN (n + 4) 3 = some 3 := ixN_nat (k := 3) (by omega)
@[simp] theorem atI_0 {α : Type} (a : α) (l : List α) : atI (a :: l) 0 = some a := by unfold atI; rw [List.length_cons, ixN_0]; rfl
@[simp] theorem atI_1 {α : Type} (a b : α) (l : List α) : atI (a :: b :: l) 1 = some b := by unfold atI; rw [List.length_cons, List.length_cons, ixN_1]; rfl
@[simp] theorem atI_2 {α : Type} (a b c : α) (l : List α) : atI (a :: b :: c :: l) 2 = some c := by unfold atI; rw [List.length_cons, List.length_cons, List.length_cons, ixN_2]; rfl
@[simp] theorem atI_3 {α : Type} (a b c d : α) (l : List α) : atI (a :: b :: c :: d :: l) 3 = some d := by unfold atI; rw [List.length_cons, List.length_cons, List.length_cons, List.length_cons, ixN_3]; rfl
theorem loop_or {w : List (Nat × List D)} {g : GSem} {b : SSem} (I : Nat → Env → Store → Prop) (R : D → Store → Prop) {ds : List D} {env : Env} {S : Store} (h0 : I 0 env S) (hc : ∀ i env S, I i env S → calm w S)
    (step : ∀ i d env S, ds[i]? = some d → I i env S → ∃ env1, g d env = some env1 ∧ ((∃ env2 S2, (b env1 S = some (.nx, env2, S2) ∨ b env1 S = some (.cnt, env2, S2)) ∧ I (i + 1) env2 S2) ∨ ∃ r env2 S2, b env1 S = some (.ret r, env2, S2) ∧ R r S2)) :
    (∃ env' S', loop w g b ds env S = some (.nx, env', S') ∧ I ds.length env' S') ∨ ∃ r env' S', loop w g b ds env S = some (.ret r, env', S') ∧ R r S' := by
  have key : ∀ (l : List D) (i : Nat) (env : Env) (S : Store), ds.drop i = l → i ≤ ds.length → I i env S → (∃ env' S', loop w g b l env S = some (.nx, env', S') ∧ I ds.length env' S') ∨ ∃ r env' S', loop w g b l env S = some (.ret r, env', S') ∧ R r S' := by
    intro l
    induction l with
    | nil =>
      intro i env S hd hi h
      have : i = ds.length := by
        have := congrArg List.length hd
        simp at this; omega
      subst this
      exact .inl ⟨env, S, by unfold loop; rw [if_pos (hc _ _ _ h)], h⟩
    | cons d r ih =>
      intro i env S hd hi h
      have hlt : i < ds.length := by
        have := congrArg List.length hd
        simp at this; omega
      have e : ds[i]? = some d := by
        rw [List.drop_eq_getElem_cons hlt] at hd
        rw [List.getElem?_eq_getElem hlt, (List.cons.inj hd).1]
      have hr : ds.drop (i + 1) = r := by
        rw [List.drop_eq_getElem_cons hlt] at hd
        exact (List.cons.inj hd).2
      obtain ⟨env1, e1, q⟩ := step i d env S e h
      rcases q with ⟨env2, S2, e2, q⟩ | ⟨v, env2, S2, e2, q⟩
      · have e3 : loop w g b (d :: r) env S = loop w g b r env2 S2 := by
          rcases e2 with e2 | e2 <;> (rw [loop, if_pos (hc _ _ _ h), e1]; show (b env1 S).bind _ = _; rw [e2]; rfl)
        rw [e3]
        exact ih (i + 1) env2 S2 hr hlt q
      · refine .inr ⟨v, env2, S2, ?_, q⟩
        rw [loop, if_pos (hc _ _ _ h), e1]
        show (b env1 S).bind _ = _
        rw [e2]; rfl
  exact key ds 0 env S (by simp) (Nat.zero_le _) h0
theorem loop_all {w : List (Nat × List D)} {g : GSem} {b : SSem} (I : Nat → Env → Store → Prop) {ds : List D} {env : Env} {S : Store} (h0 : I 0 env S) (hc : ∀ i env S, I i env S → calm w S)
    (step : ∀ i d env S, ds[i]? = some d → I i env S → ∃ env1, g d env = some env1 ∧ ∃ env2 S2, b env1 S = some (.nx, env2, S2) ∧ I (i + 1) env2 S2) :
    ∃ env' S', loop w g b ds env S = some (.nx, env', S') ∧ I ds.length env' S' := by
  rcases loop_or I (fun _ _ => False) h0 hc (fun i d env S e h => by
    obtain ⟨env1, e1, env2, S2, e2, q⟩ := step i d env S e h
    exact ⟨env1, e1, .inl ⟨env2, S2, .inl e2, q⟩⟩) with h | ⟨_, _, _, _, h⟩
  · exact h
  · exact h.elim
theorem comp_map {w : List (Nat × List D)} {e0 : Env} {g : GSem} {t : TSem} {f : ESem} {S : Store} (hc : calm w S) (p : D → Bool) (F : D → D) : ∀ (ds ys : List D), ys.length + ds.length ≤ 1000000 →
    (∀ d ∈ ds, ∃ e1, g d e0 = some e1 ∧ t e1 S = some (p d, S) ∧ (p d = true → f e1 S = some (F d, S))) → cloop w e0 g t f ds ys S = some (ys ++ (ds.filter p).map F, S)
  | [], ys, hl, _ => by unfold cloop; rw [if_pos ⟨hc, by simpa using hl⟩]; simp
  | d :: r, ys, hl, h => by
    rw [List.length_cons] at hl
    obtain ⟨e1, h1, h2, h3⟩ := h d List.mem_cons_self
    unfold cloop
    rw [if_pos ⟨hc, by omega⟩, h1]
    show (t e1 S).bind _ = _
    rw [h2]
    show (if p d = true then _ else _) = _
    have hr : ∀ x ∈ r, _ := fun x hx => h x (List.mem_cons_of_mem _ hx)
    by_cases hp : p d = true
    · rw [if_pos hp, h3 hp]
      show cloop w e0 g t f r (ys ++ [F d]) S = _
      rw [comp_map hc p F r (ys ++ [F d]) (by rw [List.length_append]; simp; omega) hr, List.filter_cons_of_pos hp]
      simp
    · rw [if_neg hp, List.filter_cons_of_neg hp]
      exact comp_map hc p F r ys (by omega) hr
theorem comp_all {w : List (Nat × List D)} {e0 : Env} {g : GSem} {f : ESem} {S : Store} (hc : calm w S) (F : D → D) (ds : List D) (hl : ds.length ≤ 1000000) (h : ∀ d ∈ ds, ∃ e1, g d e0 = some e1 ∧ f e1 S = some (F d, S)) : cloop w e0 g tYes f ds [] S = some (ds.map F, S) := by
  have := comp_map (t := tYes) hc (fun _ => true) F ds [] (by simpa using hl) (fun d hd => let ⟨e1, h1, h2⟩ := h d hd; ⟨e1, h1, rfl, fun _ => h2⟩)
  rw [this, List.nil_append, List.filter_eq_self.mpr (by simp)]
theorem comp_inv {w : List (Nat × List D)} {e0 : Env} {g : GSem} {f : ESem} (I : Nat → List D → Store → Prop) {ds : List D} {S : Store} (h0 : I 0 [] S) (hc : ∀ i ys S, I i ys S → calm w S ∧ ys.length ≤ 1000000)
    (step : ∀ i d ys S, ds[i]? = some d → I i ys S → ∃ e1 y S2, g d e0 = some e1 ∧ f e1 S = some (y, S2) ∧ I (i + 1) (ys ++ [y]) S2) : ∃ ys S', cloop w e0 g tYes f ds [] S = some (ys, S') ∧ I ds.length ys S' := by
  have key : ∀ (l : List D) (i : Nat) (ys : List D) (S : Store), ds.drop i = l → i ≤ ds.length → I i ys S → ∃ ys' S', cloop w e0 g tYes f l ys S = some (ys', S') ∧ I ds.length ys' S' := by
    intro l
    induction l with
    | nil =>
      intro i ys S hd hi h
      have : i = ds.length := by
        have := congrArg List.length hd
        simp at this; omega
      subst this
      exact ⟨ys, S, by unfold cloop; rw [if_pos (hc _ _ _ h)], h⟩
    | cons d r ih =>
      intro i ys S hd hi h
      have hlt : i < ds.length := by
        have := congrArg List.length hd
        simp at this; omega
      have e : ds[i]? = some d := by
        rw [List.drop_eq_getElem_cons hlt] at hd
        rw [List.getElem?_eq_getElem hlt, (List.cons.inj hd).1]
      have hr : ds.drop (i + 1) = r := by
        rw [List.drop_eq_getElem_cons hlt] at hd
        exact (List.cons.inj hd).2
      obtain ⟨e1, y, S2, h1, h2, h3⟩ := step i d ys S e h
      obtain ⟨ys', S', h4, h5⟩ := ih (i + 1) (ys ++ [y]) S2 hr hlt h3
      refine ⟨ys', S', ?_, h5⟩
      unfold cloop
      rw [if_pos (hc _ _ _ h), h1]
      simp only [Option.bind_some, tYes, if_true, h2]
      exact h4
  exact key ds 0 [] S (by simp) (Nat.zero_le _) h0
theorem comp_if {α : Type} {w : List (Nat × List D)} {e0 : VS.Env} {g : GSem} {t : TSem} {f : ESem} {S : Store} (hc : calm w S) (enc : α → D) (p : α → Bool) (F : α → D) : ∀ (l : List α) (ys : List D), ys.length + l.length ≤ 1000000 →
    (∀ a ∈ l, ∃ e1, g (enc a) e0 = some e1 ∧ t e1 S = some (p a, S) ∧ (p a = true → f e1 S = some (F a, S))) → cloop w e0 g t f (l.map enc) ys S = some (ys ++ (l.filter p).map F, S)
  | [], ys, hl, _ => by rw [List.map_nil, cloop, if_pos ⟨hc, by simpa using hl⟩]; simp
  | d :: r, ys, hl, h => by
    rw [List.length_cons] at hl
    obtain ⟨e1, h1, h2, h3⟩ := h d List.mem_cons_self
    have hr : ∀ x ∈ r, _ := fun x hx => h x (List.mem_cons_of_mem _ hx)
    rw [List.map_cons, cloop, if_pos ⟨hc, by omega⟩, h1]
    simp only [Option.bind_some, h2]
    by_cases hp : p d = true
    · simp only [hp, if_true, h3 hp, Option.bind_some]
      rw [comp_if hc enc p F r (ys ++ [F d]) (by rw [List.length_append]; simp; omega) hr, List.filter_cons_of_pos hp]
      simp
    · rw [if_neg hp, List.filter_cons_of_neg hp]
      exact comp_if hc enc p F r ys (by omega) hr
theorem comp_of {α : Type} {w : List (Nat × List D)} {e0 : VS.Env} {g : GSem} {f : ESem} {S : Store} (hc : calm w S) (enc F : α → D) (l : List α) (hl : l.length ≤ 1000000) (h : ∀ a ∈ l, ∃ e1, g (enc a) e0 = some e1 ∧ f e1 S = some (F a, S)) : cloop w e0 g VS.tYes f (l.map enc) [] S = some (l.map F, S) := by
  have := comp_if (t := VS.tYes) hc enc (fun _ => true) F l [] (by simpa using hl) (fun d hd => let ⟨e1, h1, h2⟩ := h d hd; ⟨e1, h1, rfl, fun _ => h2⟩)
  rw [this, List.nil_append, List.filter_eq_self.mpr (by simp)]
theorem comp_up {w : List (Nat × List D)} {e0 : VS.Env} {g : GSem} {f : ESem} {S : Store} (hc : calm w S) (n : Nat) (F : Nat → D) (hl : n ≤ 1000000) (h : ∀ i < n, ∃ e1, g (.int i) e0 = some e1 ∧ f e1 S = some (F i, S)) : cloop w e0 g VS.tYes f (upD 0 n) [] S = some ((List.range n).map F, S) := by
  have e : upD 0 n = (List.range n).map fun (i : Nat) => D.int i := by unfold upD; simp
  rw [e]
  exact comp_of hc (fun (i : Nat) => D.int i) F (List.range n) (by simpa using hl) fun i hi => h i (List.mem_range.mp hi)
theorem upD_len (lo : Int) (n : Nat) : (upD lo n).length = n := by unfold upD; rw [List.length_map, List.length_range]
theorem upD_get {lo : Int} {n i : Nat} {d : D} (h : (upD lo n)[i]? = some d) : i < n ∧ d = .int (lo + i) := by
  have hi : i < n := by rw [← upD_len lo n]; exact (List.getElem?_eq_some_iff.mp h).1
  unfold upD at h
  rw [List.getElem?_map, List.getElem?_range hi] at h
  cases h
  exact ⟨hi, rfl⟩
theorem r62_small {j : Int} (h0 : -1000000 ≤ j) (h1 : j ≤ 1000000) : r62 j := ⟨Int.le_trans (by decide) h0, Int.lt_of_le_of_lt h1 (by decide)⟩
theorem range1 {f : ASem} {env : VS.Env} {S S' : Store} {j : Int} (n : Nat) (hf : f env S = some ([.int j], S')) (hn : j.toNat = n) (h0 : -1000000 ≤ j) (h1 : j ≤ 1000000) : iRange1 f env S = some ((upD 0 n, []), S') := by
  unfold iRange1
  rw [hf, Option.bind_some]
  show (if r62 j then some ((upD 0 j.toNat, ([] : List (Nat × List D))), S') else none) = _
  rw [if_pos (r62_small h0 h1), hn]
theorem denL_flat {S : Store} {ds : List D} (h : flatL ds = true) : denL 0 S ds = some ds := pure_denL 0 S (flatL_pure h)
theorem flatL_map {α : Type} {F : α → D} (l : List α) (h : ∀ a ∈ l, flatD (F a) = true) : flatL (l.map F) = true := by
  induction l with
  | nil => rfl
  | cons a r ih => rw [List.map_cons, flatL, h a List.mem_cons_self, ih fun b hb => h b (List.mem_cons_of_mem _ hb)]; rfl
theorem toPL_map {α : Type} {F : α → D} {G : α → PyData} (l : List α) (h : ∀ a ∈ l, toP (F a) = some (G a)) : toPL (l.map F) = some (l.map G) := by
  induction l with
  | nil => rw [List.map_nil, toPL]; rfl
  | cons a r ih => rw [List.map_cons, toPL, h a List.mem_cons_self, ih fun b hb => h b (List.mem_cons_of_mem _ hb)]; rfl
abbrev St2 := Int × Int
def encS (p : St2) : D := .tup [.int p.1, .int p.2]
def encB (b : List St2) : D := .tup (b.map encS)
def encH (m : Bool) (n : Nat) (bs : List (List St2)) : D := .tup [.int n, .lst m (bs.map encB)]
@[simp] theorem flat_encS (p : St2) : flatD (encS p) = true := rfl
@[simp] theorem flat_encB (b : List St2) : flatD (encB b) = true := by rw [encB, flatD]; exact flatL_map b fun p _ => flat_encS p
theorem flat_encBs (bs : List (List St2)) : flatL (bs.map encB) = true := flatL_map bs fun b _ => flat_encB b
def pS (p : St2) : PyData := .tuple [.int p.1, .int p.2]
def pB (b : List St2) : PyData := .tuple (b.map pS)
theorem toP_encS (p : St2) : toP (encS p) = some (pS p) := by simp [encS, toP, toPL, pS]
theorem toP_encB (b : List St2) : toP (encB b) = some (pB b) := by rw [encB, toP, toPL_map b fun p _ => toP_encS p]; rfl
theorem toPL_encBs (bs : List (List St2)) : toPL (bs.map encB) = some (bs.map pB) := toPL_map bs fun b _ => toP_encB b
@[simp] theorem bIsT_int (S : Store) (x : D) : bIsT S [x, .ty "int"] = (seeP S x).map fun p => .bl (isT "int" p) := rfl
@[simp] theorem isT_int_none : isT "int" (.none) = false := rfl
@[simp] theorem isT_int_bool (b : Bool) : isT "int" (.bool b) = true := rfl
@[simp] theorem isT_int_int (i : Int) : isT "int" (.int i) = true := rfl
@[simp] theorem isT_int_str (s : Str) : isT "int" (.str s) = false := rfl
@[simp] theorem isT_int_list (l : List PyData) : isT "int" (.list l) = false := rfl
@[simp] theorem isT_int_tuple (l : List PyData) : isT "int" (.tuple l) = false := rfl
@[simp] theorem isT_int_dict (l : List (PyData × PyData)) : isT "int" (.dict l) = false := rfl
@[simp] theorem bIsT_bool (S : Store) (x : D) : bIsT S [x, .ty "bool"] = (seeP S x).map fun p => .bl (isT "bool" p) := rfl
@[simp] theorem isT_bool_none : isT "bool" (.none) = false := rfl
@[simp] theorem isT_bool_bool (b : Bool) : isT "bool" (.bool b) = true := rfl
@[simp] theorem isT_bool_int (i : Int) : isT "bool" (.int i) = false := rfl
@[simp] theorem isT_bool_str (s : Str) : isT "bool" (.str s) = false := rfl
@[simp] theorem isT_bool_list (l : List PyData) : isT "bool" (.list l) = false := rfl
@[simp] theorem isT_bool_tuple (l : List PyData) : isT "bool" (.tuple l) = false := rfl
@[simp] theorem isT_bool_dict (l : List (PyData × PyData)) : isT "bool" (.dict l) = false := rfl
@[simp] theorem bIsT_tuple (S : Store) (x : D) : bIsT S [x, .ty "tuple"] = (seeP S x).map fun p => .bl (isT "tuple" p) := rfl
@[simp] theorem isT_tuple_none : isT "tuple" (.none) = false := rfl
@[simp] theorem isT_tuple_bool (b : Bool) : isT "tuple" (.bool b) = false := rfl
@[simp] theorem isT_tuple_int (i : Int) : isT "tuple" (.int i) = false := rfl
@[simp] theorem isT_tuple_str (s : Str) : isT "tuple" (.str s) = false := rfl
@[simp] theorem isT_tuple_list (l : List PyData) : isT "tuple" (.list l) = false := rfl
@[simp] theorem isT_tuple_tuple (l : List PyData) : isT "tuple" (.tuple l) = true := rfl
@[simp] theorem isT_tuple_dict (l : List (PyData × PyData)) : isT "tuple" (.dict l) = false := rfl
@[simp] theorem bIsT_list (S : Store) (x : D) : bIsT S [x, .ty "list"] = (seeP S x).map fun p => .bl (isT "list" p) := rfl
@[simp] theorem isT_list_none : isT "list" (.none) = false := rfl
@[simp] theorem isT_list_bool (b : Bool) : isT "list" (.bool b) = false := rfl
@[simp] theorem isT_list_int (i : Int) : isT "list" (.int i) = false := rfl
@[simp] theorem isT_list_str (s : Str) : isT "list" (.str s) = false := rfl
@[simp] theorem isT_list_list (l : List PyData) : isT "list" (.list l) = true := rfl
@[simp] theorem isT_list_tuple (l : List PyData) : isT "list" (.tuple l) = false := rfl
@[simp] theorem isT_list_dict (l : List (PyData × PyData)) : isT "list" (.dict l) = false := rfl
@[simp] theorem bIsT_str (S : Store) (x : D) : bIsT S [x, .ty "str"] = (seeP S x).map fun p => .bl (isT "str" p) := rfl
@[simp] theorem isT_str_none : isT "str" (.none) = false := rfl
@[simp] theorem isT_str_bool (b : Bool) : isT "str" (.bool b) = false := rfl
@[simp] theorem isT_str_int (i : Int) : isT "str" (.int i) = false := rfl
@[simp] theorem isT_str_str (s : Str) : isT "str" (.str s) = true := rfl
@[simp] theorem isT_str_list (l : List PyData) : isT "str" (.list l) = false := rfl
@[simp] theorem isT_str_tuple (l : List PyData) : isT "str" (.tuple l) = false := rfl
@[simp] theorem isT_str_dict (l : List (PyData × PyData)) : isT "str" (.dict l) = false := rfl
@[simp] theorem bIsT_seq (S : Store) (x : D) : bIsT S [x, .tup [.ty "tuple", .ty "list"]] = (seeP S x).bind fun p => if noDict p = true then some (.bl (isSeq p)) else none := rfl
@[simp] theorem seeP_int (S : Store) (i : Int) : seeP S (.int i) = some (.int i) := by simp [seeP, den, toP]
@[simp] theorem seeP_bl (S : Store) (b : Bool) : seeP S (.bl b) = some (.bool b) := by simp [seeP, den, toP]
@[simp] theorem seeP_non (S : Store) : seeP S .non = some .none := by simp [seeP, den, toP]
@[simp] theorem seeP_str (S : Store) (x : Str) : seeP S (.str x) = some (.str x) := by simp [seeP, den, toP]
@[simp] theorem seeP_encS (S : Store) (p : St2) : seeP S (encS p) = some (pS p) := by rw [seeP, pure_den 0 S (flat_pure (flat_encS p))]; exact toP_encS p
@[simp] theorem seeP_encB (S : Store) (b : List St2) : seeP S (encB b) = some (pB b) := by rw [seeP, pure_den 0 S (flat_pure (flat_encB b))]; exact toP_encB b
theorem seeP_boxes (S : Store) (m : Bool) (bs : List (List St2)) : seeP S (.lst m (bs.map encB)) = some (.list (bs.map pB)) := by
  rw [seeP, den, denL_flat (flat_encBs bs)]
  show toP (.lst m (bs.map encB)) = _
  rw [toP, toPL_encBs]; rfl
theorem seeP_encH (S : Store) (m : Bool) (n : Nat) (bs : List (List St2)) : seeP S (encH m n bs) = some (.tuple [.int n, .list (bs.map pB)]) := by
  have h := seeP_boxes S m bs
  rw [seeP, den, denL_flat (flat_encBs bs)] at h
  have h' : toP (.lst m (bs.map encB)) = some (.list (bs.map pB)) := h
  simp [seeP, encH, den, denL, denL_flat (flat_encBs bs), toP, toPL]
  rw [toP] at h'
  obtain ⟨ps, e1, e2⟩ := map_some h'
  rw [e1]
  cases e2
  rfl
@[simp] theorem flatL_ints (ns : List Int) : flatL (ns.map D.int) = true := flatL_map ns fun _ _ => rfl
@[simp] theorem denL_ints (k : Nat) (S : Store) (ns : List Int) : denL k S (ns.map D.int) = some (ns.map D.int) := pure_denL k S (flatL_pure (flatL_ints ns))
@[simp] theorem ageL_ints (ns : List Int) : ageL (ns.map D.int) = ns.map D.int := flatL_age (flatL_ints ns)
@[simp] theorem pureL_ints (ns : List Int) : pureL (ns.map D.int) = true := flatL_pure (flatL_ints ns)
@[simp] theorem newL_ints (ns : List Int) : newL (ns.map D.int) = true := flatL_new (flatL_ints ns)
theorem upD_ints (lo : Int) (n : Nat) : upD lo n = ((List.range n).map fun (i : Nat) => lo + (i : Int)).map D.int := by unfold upD; rw [List.map_map]; rfl
@[simp] theorem denL_upD (k : Nat) (S : Store) (lo : Int) (n : Nat) : denL k S (upD lo n) = some (upD lo n) := by rw [upD_ints]; exact denL_ints ..
@[simp] theorem pureL_upD (lo : Int) (n : Nat) : pureL (upD lo n) = true := by rw [upD_ints]; exact pureL_ints _
@[simp] theorem denL_encBs (k : Nat) (S : Store) (bs : List (List St2)) : denL k S (bs.map encB) = some (bs.map encB) := pure_denL k S (flatL_pure (flat_encBs bs))
@[simp] theorem ageL_encBs (bs : List (List St2)) : ageL (bs.map encB) = bs.map encB := flatL_age (flat_encBs bs)
@[simp] theorem pureL_encBs (bs : List (List St2)) : pureL (bs.map encB) = true := flatL_pure (flat_encBs bs)
@[simp] theorem newL_encBs (bs : List (List St2)) : newL (bs.map encB) = true := flatL_new (flat_encBs bs)
@[simp] theorem flatL_encBs (bs : List (List St2)) : flatL (bs.map encB) = true := flat_encBs bs
@[simp] theorem den_encS (k : Nat) (S : Store) (p : St2) : den k S (encS p) = some (encS p) := pure_den k S (flat_pure (flat_encS p))
@[simp] theorem den_encB (k : Nat) (S : Store) (b : List St2) : den k S (encB b) = some (encB b) := pure_den k S (flat_pure (flat_encB b))
@[simp] theorem age_encS (p : St2) : age (encS p) = encS p := flat_age (flat_encS p)
@[simp] theorem age_encB (b : List St2) : age (encB b) = encB b := flat_age (flat_encB b)
@[simp] theorem pure_encS (p : St2) : pureD (encS p) = true := flat_pure (flat_encS p)
@[simp] theorem pure_encB (b : List St2) : pureD (encB b) = true := flat_pure (flat_encB b)
@[simp] theorem new_encS (p : St2) : newD (encS p) = true := flat_new (flat_encS p)
@[simp] theorem new_encB (b : List St2) : newD (encB b) = true := flat_new (flat_encB b)
@[simp] theorem den_encH (k : Nat) (S : Store) (m : Bool) (n : Nat) (bs : List (List St2)) : den k S (encH m n bs) = some (encH m n bs) := by simp [encH, den, denL, pure_denL k S (flatL_pure (flat_encBs bs))]
@[simp] theorem age_encH (m : Bool) (n : Nat) (bs : List (List St2)) : age (encH m n bs) = encH false n bs := by simp [encH, age, ageL, flatL_age (flat_encBs bs)]
@[simp] theorem pure_encH (m : Bool) (n : Nat) (bs : List (List St2)) : pureD (encH m n bs) = true := by simp [encH, pureD, pureL, flatL_pure (flat_encBs bs)]
structure Good (n : Nat) (bs : List (List St2)) : Prop where
  ways : n = 1 ∨ n = 2 ∨ n = 3
  most : bs.length ≤ [0, 20, 10, 6].getD n 0
  box : ∀ b ∈ bs, b.length = n ∧ ∀ p ∈ b, p.1 < p.2 ∧ -1000000000 ≤ p.1 ∧ p.2 ≤ 1000000000
theorem Good.n3 {n : Nat} {bs : List (List St2)} (g : Good n bs) : 1 ≤ n ∧ n ≤ 3 := by have := g.ways; omega
theorem Good.few {n : Nat} {bs : List (List St2)} (g : Good n bs) : bs.length ≤ 20 := by
  have := g.most
  rcases g.ways with h | h | h <;> subst h <;> simp at this <;> omega
theorem atI_ge {α : Type} {l : List α} {i : Int} {j : Nat} (e : i = (j : Int)) (h : j < l.length) : atI l i = some l[j] := by
  subst e
  exact atI_nat (List.getElem?_eq_getElem h)
theorem sIx_some {n d : Nat} {a : Int} (h0 : 0 ≤ a) (h1 : a ≤ n) : HT.sIx n d (some a) = a.toNat := by
  show (if a < 0 then (a + (n : Int)).toNat else min a.toNat n) = a.toNat
  rw [if_neg (by omega)]
  omega
theorem cut_to {xs : List D} {a : Int} (h0 : 0 ≤ a) (h1 : a ≤ xs.length) : cut xs none (some a) = xs.take a.toNat := by
  unfold cut
  rw [sIx_some h0 h1]
  simp [HT.sIx]
theorem cut_from {xs : List D} {a : Int} (h0 : 0 ≤ a) (h1 : a ≤ xs.length) : cut xs (some a) none = xs.drop a.toNat := by
  unfold cut
  rw [sIx_some h0 h1]
  simp only [HT.sIx]
  rw [List.take_of_length_le]
  simp
def lev : Nat → PyData → Bool
  | _, .none => true
  | _, .bool _ => true
  | _, .int _ => true
  | k + 1, .list xs => xs.all (lev k)
  | k + 1, .tuple xs => xs.all (lev k)
  | _, _ => false
theorem lev_all {k : Nat} (ih : ∀ d, lev k d = true → PyData.canLay0 d = true ∧ d.depth ≤ k) : ∀ xs : List PyData, xs.all (lev k) = true → PyData.canLayAll0 xs = true ∧ PyData.depthAll xs ≤ k
  | [], _ => ⟨by rw [PyData.canLayAll0], by rw [PyData.depthAll]; omega⟩
  | x :: xs, h => by
    rw [List.all_cons, Bool.and_eq_true] at h
    obtain ⟨h1, h2⟩ := ih x h.1
    obtain ⟨h3, h4⟩ := lev_all ih xs h.2
    exact ⟨by rw [PyData.canLayAll0, h1, h3]; rfl, by rw [PyData.depthAll]; omega⟩
theorem lev_ok : ∀ (k : Nat) (d : PyData), lev k d = true → PyData.canLay0 d = true ∧ d.depth ≤ k
  | k, .none, _ => ⟨by rw [PyData.canLay0], by rw [PyData.depth]; omega⟩
  | k, .bool _, _ => ⟨by rw [PyData.canLay0], by rw [PyData.depth]; omega⟩
  | k, .int _, _ => ⟨by rw [PyData.canLay0], by rw [PyData.depth]; omega⟩
  | 0, .list _, h => by simp [lev] at h
  | 0, .tuple _, h => by simp [lev] at h
  | k, .str _, h => by cases k <;> simp [lev] at h
  | k, .dict _, h => by cases k <;> simp [lev] at h
  | k + 1, .list xs, h => by
    rw [lev] at h
    obtain ⟨h1, h2⟩ := lev_all (lev_ok k) xs h
    exact ⟨by rw [PyData.canLay0]; exact h1, by rw [PyData.depth]; omega⟩
  | k + 1, .tuple xs, h => by
    rw [lev] at h
    obtain ⟨h1, h2⟩ := lev_all (lev_ok k) xs h
    exact ⟨by rw [PyData.canLay0]; exact h1, by rw [PyData.depth]; omega⟩
theorem lev_shaped {k : Nat} {d : PyData} (h : lev k d = true) (hk : k ≤ 60) : SeqAt.shaped d = true := by
  obtain ⟨h1, h2⟩ := lev_ok k d h
  unfold SeqAt.shaped
  rw [h1, Bool.true_and]
  exact decide_eq_true (by omega)
theorem eqP_same {neg : Bool} {S : Store} {x y : D} {p : PyData} (k : Nat) (hx : seeP S x = some p) (hy : seeP S y = some p) (h : lev k p = true) (hk : k ≤ 60) : eqP neg S x y = some (.bl (neg ^^ true)) := by
  unfold eqP
  rw [hx, hy]
  simp only [Option.bind_some]
  rw [lev_shaped h hk, SeqAt.eqv_refl _ (lev_ok k p h).1]; rfl
theorem lev_pS (k : Nat) (p : St2) : lev (k + 1) (pS p) = true := by simp [pS, lev]
theorem lev_pB (k : Nat) (b : List St2) : lev (k + 2) (pB b) = true := by
  rw [pB, lev, List.all_map, List.all_eq_true]
  exact fun p _ => lev_pS k p
theorem lev_boxes (k : Nat) (bs : List (List St2)) : lev (k + 3) (.list (bs.map pB)) = true := by
  rw [lev, List.all_map, List.all_eq_true]
  exact fun p _ => lev_pB k p
theorem lev_heap (k : Nat) (n : Nat) (bs : List (List St2)) : lev (k + 4) (.tuple [.int n, .list (bs.map pB)]) = true := by
  rw [lev, List.all_cons, List.all_cons, lev_boxes k bs]
  rfl
theorem seq_nx {a b : SSem} {env env1 : VS.Env} {S S1 : Store} (h : a env S = some (.nx, env1, S1)) : sSeq a b env S = b env1 S1 := by rw [sSeq_eq, h]; rfl
theorem if_yes {c : TSem} {a b : SSem} {env : VS.Env} {S S1 : Store} (h : c env S = some (true, S1)) : sIf c a b env S = a env S1 := by rw [sIf_eq, h]; rfl
theorem if_no {c : TSem} {a b : SSem} {env : VS.Env} {S S1 : Store} (h : c env S = some (false, S1)) : sIf c a b env S = b env S1 := by rw [sIf_eq, h]; rfl
end VS
end
section
set_option Elab.async false
set_option maxRecDepth 10000
set_option linter.all false
namespace VS
open PySem PySem.Spec L2
end VS
namespace HT
open PySem PySem.Spec PyProof PyProof.Rows
end HT
namespace L2
open PySem PySem.Spec PyProof PyProof.Rows
end L2
namespace VS
open PySem PySem.Spec L2
end VS
end
section
set_option Elab.async false
set_option maxRecDepth 100000
set_option linter.all false
namespace HT
open PySem PySem.Spec PyProof.Rows
section
variable {prog : Program} {w : World} {A : Around} {E : Value → Shared → Prop} {s : Shared}
theorem wpAny_alive {a : Addr} {o : Obj} {Q : Option Obj → Shared → Prop} (e : s.heap.get? a = some o) (q : Q (some o) s) : wpAny (model prog w) A (loadIfAlive a) Q E s := by
  intro Γ p _
  unfold loadIfAlive
  rw [Sem.wp_loadIfAlive, e]
  exact (Sem.wp_pure ..).mpr q
abbrev IsZipU (h : Heap) (z TI TO T : Addr) (c : Bool) : Prop := h.get? z = some { cls := .type "zip", dict := none, data := .fields #[rawInt T, .bool c, .bool false, .ref TI, .ref TO], slots := #[] }
variable {z TI TO i1 i2 T : Addr} {fp1 fp2 : List Addr} {n1 n2 k : Nat} {P1 P2 : Nat → Value → Prop} {S1 S2 : Nat → Heap → Prop} {c : Bool}
theorem zipHeld {Q : Bool → Shared → Prop} (hZ : IsZipU s.heap z TI TO T c) (hT : ∃ o, s.heap.get? T = some o) (q : ∀ h', IsZipU h' z TI TO T true → Heap.SameBut z s.heap h' → Q false { s with heap := h' }) :
    wpAny (model prog w) A (Builtin.SmallTypes.ownedTupleIsFree (.ref z)) Q E s := by
  obtain ⟨o, hT⟩ := hT
  unfold Builtin.SmallTypes.ownedTupleIsFree
  refine wpAny_bind (wpAny_field hZ rfl (x := rawInt T) rfl ?_)
  show wpAny _ _ (loadIfAlive (Int.toNat (T : Int)) >>= _) _ _ _
  rw [Int.toNat_natCast]
  refine wpAny_bind (wpAny_alive hT ?_)
  simp only [Option.isNone_some, Bool.false_eq_true, if_false]
  refine wpAny_bind (wpAny_field hZ rfl (x := .bool c) rfl ?_)
  cases c with
  | false =>
    rw [if_pos (by decide)]
    refine wpAny_bind (wpAny_setField_rec hZ (by simp) fun g z' m => ?_)
    exact wpAny_pure (q g z' m)
  | true =>
    rw [if_neg (by decide)]
    exact wpAny_pure (q s.heap hZ (Heap.SameBut.refl ..))
theorem zipU {Q : Value → Shared → Prop} (D1 : Draws prog w A i1 fp1 n1 P1 S1) (D2 : Draws prog w A i2 fp2 n2 P2 S2) (D : Apart z TI TO i1 i2 fp1 fp2) (hZ : IsZipU s.heap z TI TO T c) (hI : IsPair s.heap TI (.ref i1) (.ref i2)) (hT : ∃ o, s.heap.get? T = some o)
    (s1 : S1 k s.heap) (s2 : S2 k s.heap) (k1 : k < n1) (k2 : k < n2)
    (q : ∀ x y h' tk, P1 k x → P2 k y → IsZipU h' z TI TO T true → S1 (k + 1) h' → S2 (k + 1) h' → IsPair h' s.heap.objs.size x y → h'.objs.size = s.heap.objs.size + 1 →
      (∀ c o, c ≠ z → c ≠ i1 → c ≠ i2 → s.heap.get? c = some o → h'.get? c = some o) → Q (.ref s.heap.objs.size) { s with heap := h', toks := tk }) :
    wpAny (model prog w) A (Builtin.«zip.__next__» ⟨[.ref z], []⟩) (fun fin s' => ∃ v, fin = .done (.ret v) ∧ Q v s') E s := by
  obtain ⟨hp, g, d, tk0, os⟩ := s
  refine (show wpAny _ _ (field (.ref z) 2 >>= _) _ _ _ from wpAny_bind (wpAny_field hZ rfl (x := .bool false) rfl ?_))
  refine (show wpAny _ _ (field (.ref z) 3 >>= _) _ _ _ from wpAny_bind (wpAny_field hZ rfl (x := .ref TI) rfl (wpAny_bind (wpAny_seqItems hI rfl ?_))))
  refine (show wpAny _ _ (Builtin.SmallTypes.ownedTupleIsFree (.ref z) >>= _) _ _ _ from wpAny_bind (zipHeld hZ hT fun g1 z1 m1 => ?_))
  replace m1 : Heap.SameBut z hp g1 := m1
  simp only [Bool.false_eq_true, if_false]
  have t1 : S1 k g1 := D1.frame _ _ _ s1 fun c hc o e => m1.extBut _ _ (D.b1 c hc).1 e
  have u1 : S2 k g1 := D2.frame _ _ _ s2 fun c hc o e => m1.extBut _ _ (D.b2 c hc).1 e
  refine wpAny_bind ?_
  simp only [List.forIn_toArray, List.forIn_cons, List.forIn_nil]
  refine wpAny_bind (wpAny_bind (wpAny_holding (show wpAny _ _ (Builtin.SmallTypes.nextOf (.ref i1) >>= _) _ _ _ from wpAny_bind (D1.item k ⟨g1, g, d, tk0, os⟩ _ _ k1 t1 fun x g2 tk1 px t2 m2 => wpAny_pure ?_))))
  replace m2 : Heap.SameBut i1 g1 g2 := m2
  have u2 : S2 k g2 := D2.frame _ _ _ u1 fun c hc o e => m2.extBut _ _ (D.b2 c hc).2.2 e
  refine wpAny_pure ?_
  refine wpAny_bind (wpAny_bind (wpAny_holding (show wpAny _ _ (Builtin.SmallTypes.nextOf (.ref i2) >>= _) _ _ _ from wpAny_bind (D2.item k ⟨g2, g, d, tk1, os⟩ _ _ k2 u2 fun y g3 tk2 py u3 m3 => wpAny_pure ?_))))
  replace m3 : Heap.SameBut i2 g2 g3 := m3
  refine wpAny_pure (wpAny_pure ?_)
  refine wpAny_bind (wpAny_newTuple ?_ (by simp [sizeLine]))
  have sz : g3.objs.size = hp.objs.size := by rw [m3.1, m2.1, m1.1]
  refine wpAny_pure ⟨_, rfl, ?_⟩
  show Q (.ref g3.objs.size) _
  have z3 : IsZipU g3 z TI TO T true := m3.extBut _ _ (Ne.symm D.c2.1) (m2.extBut _ _ (Ne.symm D.c1.1) z1)
  have q3 := q x y (g3.push { cls := .type "tuple", data := .seq #[x, y] }) tk2 px py (Heap.get?_push_of_some _ z3)
    (D1.frame _ _ _ t2 fun c hc o e => Heap.get?_push_of_some _ (m3.extBut _ _ (D.b1 c hc).2.2 e)) (D2.frame _ _ _ u3 fun c hc o e => Heap.get?_push_of_some _ e)
    (by show IsPair _ hp.objs.size x y; rw [← sz]; exact Heap.get?_push_size _ rfl) (by rw [Heap.size_push, sz])
    fun c o n1 n3 n4 e => Heap.get?_push_of_some _ (m3.extBut _ _ n4 (m2.extBut _ _ n3 (m1.extBut _ _ n1 e)))
  rw [sz]
  exact q3
theorem zipUE {Q : PySem.Fin → Shared → Prop} (D1 : Draws prog w A i1 fp1 n1 P1 S1) (D2 : Draws prog w A i2 fp2 n2 P2 S2) (D : Apart z TI TO i1 i2 fp1 fp2) (hZ : IsZipU s.heap z TI TO T c) (hI : IsPair s.heap TI (.ref i1) (.ref i2)) (hT : ∃ o, s.heap.get? T = some o)
    (s1 : S1 k s.heap) (s2 : S2 k s.heap) (ke : k = n1 ∨ (k < n1 ∧ k = n2))
    (q : ∀ h' e tk, (∀ c o, c ≠ z → c ≠ i1 → c ≠ i2 → s.heap.get? c = some o → h'.get? c = some o) → (∃ o, h'.get? e = some o ∧ o.cls = .type "StopIteration") → E (.ref e) { s with heap := h', toks := tk }) :
    wpAny (model prog w) A (Builtin.«zip.__next__» ⟨[.ref z], []⟩) Q E s := by
  obtain ⟨hp, g, d, tk0, os⟩ := s
  refine (show wpAny _ _ (field (.ref z) 2 >>= _) _ _ _ from wpAny_bind (wpAny_field hZ rfl (x := .bool false) rfl ?_))
  refine (show wpAny _ _ (field (.ref z) 3 >>= _) _ _ _ from wpAny_bind (wpAny_field hZ rfl (x := .ref TI) rfl (wpAny_bind (wpAny_seqItems hI rfl ?_))))
  refine (show wpAny _ _ (Builtin.SmallTypes.ownedTupleIsFree (.ref z) >>= _) _ _ _ from wpAny_bind (zipHeld hZ hT fun g1 z1 m1 => ?_))
  replace m1 : Heap.SameBut z hp g1 := m1
  simp only [Bool.false_eq_true, if_false]
  have t1 : S1 k g1 := D1.frame _ _ _ s1 fun c hc o e => m1.extBut _ _ (D.b1 c hc).1 e
  have u1 : S2 k g1 := D2.frame _ _ _ s2 fun c hc o e => m1.extBut _ _ (D.b2 c hc).1 e
  refine wpAny_bind ?_
  simp only [List.forIn_toArray, List.forIn_cons, List.forIn_nil]
  rcases ke with ke | ⟨k1, ke⟩
  · subst ke
    refine wpAny_bind (wpAny_bind (wpAny_holding (show wpAny _ _ (Builtin.SmallTypes.nextOf (.ref i1) >>= _) _ _ _ from wpAny_bind (D1.done ⟨g1, g, d, tk0, os⟩ _ _ t1 fun g2 e m2 he => ?_))))
    replace m2 : Heap.ExtBut i1 g1 g2 := m2
    exact q g2 e tk0 (fun c o n1 n3 _ x => m2 _ _ n3 (m1.extBut _ _ n1 x)) he
  · refine wpAny_bind (wpAny_bind (wpAny_holding (show wpAny _ _ (Builtin.SmallTypes.nextOf (.ref i1) >>= _) _ _ _ from wpAny_bind (D1.item k ⟨g1, g, d, tk0, os⟩ _ _ k1 t1 fun x g2 tk1 px t2 m2 => wpAny_pure ?_))))
    replace m2 : Heap.SameBut i1 g1 g2 := m2
    have u2 : S2 k g2 := D2.frame _ _ _ u1 fun c hc o e => m2.extBut _ _ (D.b2 c hc).2.2 e
    rw [ke] at u2
    refine wpAny_pure ?_
    refine wpAny_bind (wpAny_bind (wpAny_holding (show wpAny _ _ (Builtin.SmallTypes.nextOf (.ref i2) >>= _) _ _ _ from wpAny_bind (D2.done ⟨g2, g, d, tk1, os⟩ _ _ u2 fun g3 e m3 he => ?_))))
    replace m3 : Heap.ExtBut i2 g2 g3 := m3
    exact q g3 e tk1 (fun c o n1 n3 n4 x => m3 _ _ n4 (m2.extBut _ _ n3 (m1.extBut _ _ n1 x))) he
def ZS (z TI TO i1 i2 : Addr) (S1 S2 : Nat → Heap → Prop) (k : Nat) (h : Heap) : Prop :=
  IsPair h TI (.ref i1) (.ref i2) ∧ S1 k h ∧ S2 k h ∧ ((∃ a b, IsZip h z TI TO .none ∧ IsPair h TO a b) ∨ ∃ T c o, IsZipU h z TI TO T c ∧ h.get? T = some o ∧ T ≠ z ∧ T ≠ i1 ∧ T ≠ i2)
theorem ZS.type (st : ZS z TI TO i1 i2 S1 S2 k s.heap) : s.TypeIs (.ref z) "zip" := by
  obtain ⟨_, _, _, ⟨_, _, h, _⟩ | ⟨_, _, _, h, _⟩⟩ := st
  · exact ⟨_, h, rfl⟩
  · exact ⟨_, h, rfl⟩
theorem ZS.lt {h : Heap} (st : ZS z TI TO i1 i2 S1 S2 k h) : z < h.objs.size := by
  obtain ⟨_, _, _, ⟨_, _, h, _⟩ | ⟨_, _, _, h, _⟩⟩ := st
  · exact Heap.lt_size h
  · exact Heap.lt_size h
theorem ZS.frame {h h' : Heap} (D1 : Draws prog w A i1 fp1 n1 P1 S1) (D2 : Draws prog w A i2 fp2 n2 P2 S2) (st : ZS z TI TO i1 i2 S1 S2 k h) {S : Addr} (f1 : S ∉ fp1) (f2 : S ∉ fp2) (n1 : S ≠ z) (n2 : S ≠ TI) (n3 : S ≠ TO) (lv : ∃ o, h'.get? S = some o) (m : ∀ c o, c ≠ S → h.get? c = some o → h'.get? c = some o) : ZS z TI TO i1 i2 S1 S2 k h' := by
  obtain ⟨a1, a2, a3, a4⟩ := st
  refine ⟨m _ _ (Ne.symm n2) a1, D1.frame _ _ _ a2 fun c hc o e => m c o (fun q => f1 (q ▸ hc)) e, D2.frame _ _ _ a3 fun c hc o e => m c o (fun q => f2 (q ▸ hc)) e, ?_⟩
  rcases a4 with ⟨a, b, b1, b2⟩ | ⟨T, c, o, b1, b2, b3⟩
  · exact .inl ⟨a, b, m _ _ (Ne.symm n1) b1, m _ _ (Ne.symm n3) b2⟩
  · by_cases q : T = S
    · obtain ⟨o', e⟩ := lv
      exact .inr ⟨T, c, o', m _ _ (Ne.symm n1) b1, q ▸ e, b3⟩
    · exact .inr ⟨T, c, o, m _ _ (Ne.symm n1) b1, m _ _ q b2, b3⟩
theorem zipAny {Q : Option Value → Shared → Prop} (D1 : Draws prog w A.in1 i1 fp1 n1 P1 S1) (D2 : Draws prog w A.in1 i2 fp2 n2 P2 S2) (D : Apart z TI TO i1 i2 fp1 fp2) (st : ZS z TI TO i1 i2 S1 S2 k s.heap) (k1 : k < n1) (k2 : k < n2)
    (q : ∀ x y h' tk, P1 k x → P2 k y → ZS z TI TO i1 i2 S1 S2 (k + 1) h' → IsPair h' s.heap.objs.size x y → h'.objs.size = s.heap.objs.size + 1 → (∀ c o, c ≠ z → c ≠ TO → c ≠ i1 → c ≠ i2 → s.heap.get? c = some o → h'.get? c = some o) → Q (some (.ref s.heap.objs.size)) { s with heap := h', toks := tk }) :
    wpAny (model prog w) A (pyNext (.ref z)) Q E s := by
  have T := st.type
  have lz := st.lt
  obtain ⟨a1, a2, a3, a4⟩ := st
  obtain ⟨_, l1⟩ := D1.live _ _ a2
  obtain ⟨_, l2⟩ := D2.live _ _ a3
  rcases a4 with ⟨a, b, b1, b2⟩ | ⟨T', c, o, b1, b2, b3, b4, b5⟩
  · refine zipNext D1 D2 D b1 a1 b2 a2 a3 k1 k2 fun x y h' tk p1 p2 c1 c2 c3 c4 c5 c6 c7 => q x y h' tk p1 p2 ⟨c7 _ _ D.a1 D.a3 (Ne.symm D.c1.2.2) (Ne.symm D.c2.2.2) a1, c3, c4, .inr ⟨_, false, _, c1, c5, Nat.ne_of_gt lz, Nat.ne_of_gt (Heap.lt_size l1), Nat.ne_of_gt (Heap.lt_size l2)⟩⟩ c5 c6 c7
  · unfold pyNext
    refine wpAny_bind (wpAny_attempt (wpAny_callSpecial?_slot (name := Str.ofString "__next__") T PySem.F.slot_zip_next (wpAny_call_entry PySem.F.slot_zip_next T PySem.F.entry_zip_next (zipU D1 D2 D b1 a1 ⟨o, b2⟩ a2 a3 k1 k2 fun x y h' tk p1 p2 c1 c3 c4 c5 c6 c7 => wpAny_pure (q x y h' tk p1 p2 ?_ c5 c6 fun c o n1 _ n3 n4 e => c7 c o n1 n3 n4 e)) (PySem.F.args_zip_next_1 _))))
    exact ⟨c7 _ _ D.a1 (Ne.symm D.c1.2.2) (Ne.symm D.c2.2.2) a1, c3, c4, .inr ⟨T', true, o, c1, c7 _ _ b3 b4 b5 b2, b3, b4, b5⟩⟩
theorem zipNone {Q : Option Value → Shared → Prop} (D1 : Draws prog w A.in1 i1 fp1 n1 P1 S1) (D2 : Draws prog w A.in1 i2 fp2 n2 P2 S2) (D : Apart z TI TO i1 i2 fp1 fp2) (st : ZS z TI TO i1 i2 S1 S2 k s.heap) (ke : k = n1 ∨ (k < n1 ∧ k = n2))
    (q : ∀ h' tk, (∀ c o, c ≠ z → c ≠ TO → c ≠ i1 → c ≠ i2 → s.heap.get? c = some o → h'.get? c = some o) → Q none { s with heap := h', toks := tk }) : wpAny (model prog w) A (pyNext (.ref z)) Q E s := by
  have T := st.type
  obtain ⟨a1, a2, a3, a4⟩ := st
  rcases a4 with ⟨a, b, b1, b2⟩ | ⟨T', c, o, b1, b2, b3, b4, b5⟩
  · exact zipStop D1 D2 D b1 a1 b2 a2 a3 ke q
  · unfold pyNext
    refine wpAny_bind (wpAny_attempt (wpAny_callSpecial?_slot (name := Str.ofString "__next__") T PySem.F.slot_zip_next (wpAny_call_entry PySem.F.slot_zip_next T PySem.F.entry_zip_next (zipUE D1 D2 D b1 a1 ⟨o, b2⟩ a2 a3 ke fun h' e tk kk he => ?_) (PySem.F.args_zip_next_1 _))))
    obtain ⟨o, e1, e2⟩ := he
    exact wpAny_bind (wpAny_isInstance (T := "StopIteration") (b := true) ⟨o, e1, e2⟩ isSubtype_stop (wpAny_pure (q h' tk fun c o n1 _ n3 n4 e => kk c o n1 n3 n4 e)))
def Laid (P1 P2 : Nat → Value → Prop) (t0 k : Nat) (h : Heap) : Prop := ∀ j, j < k → ∃ x y, P1 j x ∧ P2 j y ∧ IsPair h (t0 + j) x y
theorem zipLoop {R : Result → Shared → Prop} (D1 : Draws prog w A.in1.in1 i1 fp1 n1 P1 S1) (D2 : Draws prog w A.in1.in1 i2 fp2 n2 P2 S2) (D : Apart z TI TO i1 i2 fp1 fp2) {m t0 : Nat} (hm : ∀ k, k < m → k < n1 ∧ k < n2) (he : m = n1 ∨ (m < n1 ∧ m = n2)) (hs : m ≤ 1000000) (S : Addr) (f1 : S ∉ fp1) (f2 : S ∉ fp2) (e1 : S ≠ z) (e2 : S ≠ TI) (e3 : S ≠ TO) (e4 : S ≠ i1) (e5 : S ≠ i2) (e6 : S < t0)
    (far : z < t0 ∧ TO < t0 ∧ i1 < t0 ∧ i2 < t0) (res : Value) :
    ∀ (j k : Nat) (s : Shared) (acc : Array Value) (c : Nat), m - k = j → k ≤ m → ZS z TI TO i1 i2 S1 S2 k s.heap → s.heap.get? S = some { cls := .type "list", dict := none, data := .seq acc c, slots := #[] } → acc = ((List.range k).map fun j => Value.ref (t0 + j)).toArray → s.heap.objs.size = t0 + k → Laid P1 P2 t0 k s.heap →
    (∀ h' tk c', (∀ b o, b ≠ z → b ≠ TO → b ≠ i1 → b ≠ i2 → b ≠ S → s.heap.get? b = some o → h'.get? b = some o) → h'.get? S = some { cls := .type "list", dict := none, data := .seq ((List.range m).map fun j => Value.ref (t0 + j)).toArray c', slots := #[] } → Laid P1 P2 t0 m h' → R (.ok (.ret res)) { s with heap := h', toks := tk }) →
    codeAny (model prog w) A (.builtin "list.extend.loop" ⟨[.ref S, .ref z, res], []⟩) R s := by
  have aw : ∀ j : Nat, t0 + j ≠ z ∧ t0 + j ≠ TO ∧ t0 + j ≠ i1 ∧ t0 + j ≠ i2 ∧ t0 + j ≠ S := fun j => ⟨Nat.ne_of_gt (Nat.lt_of_lt_of_le far.1 (Nat.le_add_right _ _)), Nat.ne_of_gt (Nat.lt_of_lt_of_le far.2.1 (Nat.le_add_right _ _)), Nat.ne_of_gt (Nat.lt_of_lt_of_le far.2.2.1 (Nat.le_add_right _ _)), Nat.ne_of_gt (Nat.lt_of_lt_of_le far.2.2.2 (Nat.le_add_right _ _)), Nat.ne_of_gt (Nat.lt_of_lt_of_le e6 (Nat.le_add_right _ _))⟩
  have hs2 : m ≤ sizeLine := Nat.le_trans hs (by decide)
  intro j
  induction j with
  | zero =>
    intro k s acc c hj hk st hS ha hz hl q
    have hkm : k = m := by omega
    subst hkm
    refine codeAny_builtin PySem.F.entry_extend_loop ?_
    rw [Around.under_plainId PySem.F.plain_extend_loop _]
    show wpAny _ A.in1 (pyNext (.ref z) >>= _) _ _ s
    refine wpAny_bind (zipNone D1 D2 D st he fun h' tk kk => wpAny_pure (q h' tk c (fun b o n1 n2 n3 n4 _ e => kk b o n1 n2 n3 n4 e) ?_ ?_))
    · rw [← ha]; exact kk _ _ e1 e3 e4 e5 hS
    · intro j hj
      obtain ⟨x, y, p1, p2, t⟩ := hl j hj
      exact ⟨x, y, p1, p2, kk _ _ (aw j).1 (aw j).2.1 (aw j).2.2.1 (aw j).2.2.2.1 t⟩
  | succ j ih =>
    intro k s acc c hj hk st hS ha hz hl q
    have hlt : k < m := by omega
    refine codeAny_builtin PySem.F.entry_extend_loop ?_
    rw [Around.under_plainId PySem.F.plain_extend_loop _]
    show wpAny _ A.in1 (pyNext (.ref z) >>= _) _ _ s
    refine wpAny_bind (zipAny D1 D2 D st (hm k hlt).1 (hm k hlt).2 fun x y h' tk p1 p2 st' tp sz kk => ?_)
    have hS' := kk _ _ e1 e3 e4 e5 hS
    have hlen : acc.size = k := by rw [ha]; simp
    show wpAny _ A.in1 (updateSeq S (·.push (.ref s.heap.objs.size)) >>= _) _ _ _
    refine wpAny_bind ?_
    have oth : ∀ b o, b ≠ S → h'.get? b = some o → (h'.update S (Obj.mapSeq (·.push (Value.ref s.heap.objs.size)))).get? b = some o := fun b o n e => (Heap.get?_update_other _ _ (Ne.symm n)).trans e
    have hS2 := Heap.get?_update_self (Obj.mapSeq (·.push (Value.ref s.heap.objs.size))) hS' rfl
    have szu : (h'.update S (Obj.mapSeq (·.push (Value.ref s.heap.objs.size)))).objs.size = h'.objs.size := (Heap.SameBut.update ..).1
    refine wpAny_updateSeq hS' rfl (wpAny_pure ⟨plainId_quiet PySem.F.plain_extend_loop _, ih (k + 1) _ (acc.push (.ref s.heap.objs.size)) _ (by omega) hlt (ZS.frame D1 D2 st' f1 f2 e1 e2 e3 ⟨_, hS2⟩ oth) hS2 ?_ ?_ ?_ fun h'' tk'' c'' kk2 hS3 hl3 => ?_⟩)
      (by rw [hlen]; omega) (by show (acc.push _).size ≤ sizeLine + 1; rw [Array.size_push, hlen]; omega)
    · rw [ha, hz, List.range_succ]; simp
    · rw [show (Shared.heap _).objs.size = _ from szu, sz, hz]; omega
    · intro j hj
      by_cases q' : j = k
      · subst q'
        refine ⟨x, y, p1, p2, oth _ _ (aw _).2.2.2.2 ?_⟩
        rw [← hz]; exact tp
      · obtain ⟨x', y', r1, r2, t⟩ := hl j (by omega)
        exact ⟨x', y', r1, r2, oth _ _ (aw j).2.2.2.2 (kk _ _ (aw j).1 (aw j).2.1 (aw j).2.2.1 (aw j).2.2.2.1 t)⟩
    · exact q h'' tk'' c'' (fun b o n1 n2 n3 n4 n5 e => kk2 b o n1 n2 n3 n4 n5 (oth b o n5 (kk b o n1 n2 n3 n4 e))) hS3 hl3
theorem zipNoLen : typeLookup (.type "zip") "__len__" = pure none := by rw [typeLookup_type, builtinLookup_eq_fast]; kernel_rfl
theorem zipNoHint : typeLookup (.type "zip") "__length_hint__" = pure none := by rw [typeLookup_type, builtinLookup_eq_fast]; kernel_rfl
theorem ZS.push {h : Heap} (D1 : Draws prog w A i1 fp1 n1 P1 S1) (D2 : Draws prog w A i2 fp2 n2 P2 S2) (st : ZS z TI TO i1 i2 S1 S2 k h) (o : Obj) : ZS z TI TO i1 i2 S1 S2 k (h.push o) := by
  obtain ⟨a1, a2, a3, a4⟩ := st
  refine ⟨Heap.get?_push_of_some _ a1, D1.frame _ _ _ a2 fun c hc o e => Heap.get?_push_of_some _ e, D2.frame _ _ _ a3 fun c hc o e => Heap.get?_push_of_some _ e, ?_⟩
  rcases a4 with ⟨a, b, b1, b2⟩ | ⟨T, c, o, b1, b2, b3⟩
  · exact .inl ⟨a, b, Heap.get?_push_of_some _ b1, Heap.get?_push_of_some _ b2⟩
  · exact .inr ⟨T, c, o, Heap.get?_push_of_some _ b1, Heap.get?_push_of_some _ b2, b3⟩
theorem iterZip {Q : Value → Shared → Prop} (T : s.TypeIs (.ref z) "zip") (q : Q (.ref z) s) : wpAny (model prog w) A (pyIter (.ref z)) Q E s :=
  wpAny_pyIter_slot T PySem.F.slot_zip_iter (wpAny_call_entry PySem.F.slot_zip_iter T PySem.F.entry_zip_iter (show wpAny _ _ (ret (.ref z)) _ _ s from wpAny_pure ⟨_, rfl, "zip", _, T, PySem.F.slot_zip_next.lookup, q⟩) (PySem.F.args_zip_iter_1 _))
theorem listZip {Q : Value → Shared → Prop} (D1 : Draws prog w A.in1.in1.in1 i1 fp1 n1 P1 S1) (D2 : Draws prog w A.in1.in1.in1 i2 fp2 n2 P2 S2) (D : Apart z TI TO i1 i2 fp1 fp2) {m : Nat} (hm : ∀ k, k < m → k < n1 ∧ k < n2) (he : m = n1 ∨ (m < n1 ∧ m = n2)) (hs : m ≤ 1000000) (st : ZS z TI TO i1 i2 S1 S2 0 s.heap)
    (l1 : ∀ b ∈ fp1, b < s.heap.objs.size) (l2 : ∀ b ∈ fp2, b < s.heap.objs.size) (l3 : z < s.heap.objs.size ∧ TI < s.heap.objs.size ∧ TO < s.heap.objs.size ∧ i1 < s.heap.objs.size ∧ i2 < s.heap.objs.size)
    (q : ∀ h' tk c', (∀ b o, b ≠ z → b ≠ TO → b ≠ i1 → b ≠ i2 → s.heap.get? b = some o → h'.get? b = some o) → h'.get? s.heap.objs.size = some { cls := .type "list", dict := none, data := .seq ((List.range m).map fun j => Value.ref (s.heap.objs.size + 1 + j)).toArray c', slots := #[] } →
      Laid P1 P2 (s.heap.objs.size + 1) m h' → Q (.ref s.heap.objs.size) { s with heap := h', toks := tk }) : wpAny (model prog w) A (call (.type "list") [.ref z]) Q E s := by
  refine callType_codes (Q₁ := fun obj s₁ => obj = .ref s.heap.objs.size ∧ s₁ = { s with heap := s.heap.push { cls := .type "list", data := .seq #[] } }) PySem.F.called_list (PySem.F.typeCall_list_1 _) PySem.F.entry_list_init (code_list_new _ ⟨rfl, rfl⟩) fun obj s₁ h₁ => ?_
  obtain ⟨rfl, rfl⟩ := h₁
  have g0 : (s.heap.push { cls := .type "list", data := .seq #[] }).get? s.heap.objs.size = some { cls := .type "list", data := .seq #[] } := Heap.get?_push_size _ rfl
  refine ⟨⟨_, g0, rfl⟩, PySem.F.args_list_init_2 _ _, ?_⟩
  generalize hS : s.heap.objs.size = S at *
  have st0 := ZS.push D1 D2 st { cls := .type "list", data := .seq #[] }
  have sz0 : (s.heap.push { cls := .type "list", data := .seq #[] }).objs.size = S + 1 := by rw [Heap.size_push, hS]
  have k0 : ∀ b o, s.heap.get? b = some o → (s.heap.push { cls := .type "list", data := .seq #[] }).get? b = some o := fun b o e => Heap.get?_push_of_some _ e
  generalize s.heap.push { cls := .type "list", data := .seq #[] } = h0 at *
  have ne1 : S ≠ z := Nat.ne_of_gt l3.1
  have ne2 : S ≠ TI := Nat.ne_of_gt l3.2.1
  have ne3 : S ≠ TO := Nat.ne_of_gt l3.2.2.1
  have ne4 : S ≠ i1 := Nat.ne_of_gt l3.2.2.2.1
  have ne5 : S ≠ i2 := Nat.ne_of_gt l3.2.2.2.2
  have nf1 : S ∉ fp1 := fun z => Nat.lt_irrefl _ (l1 _ z)
  have nf2 : S ∉ fp2 := fun z => Nat.lt_irrefl _ (l2 _ z)
  -- one write of the new list after the other
  have wr : ∀ (h : Heap) (f : Array Value → Array Value) (xs : Array Value) (c : Nat), h.get? S = some { cls := .type "list", data := .seq xs c } → (∀ b o, b ≠ S → h.get? b = some o → (h.update S (Obj.mapSeq f)).get? b = some o) ∧ (h.update S (Obj.mapSeq f)).objs.size = h.objs.size := fun h f xs c e => ⟨fun b o n e => (Heap.get?_update_other _ _ (Ne.symm n)).trans e, (Heap.SameBut.update ..).1⟩
  refine (show wpAny _ _ (do let old ← Builtin.List.listItems (.ref S); Builtin.List.listUpdate (.ref S) (fun _ => #[]); letGo old.toList.reverse; Builtin.List.listExtendWith (.ref S) (.ref z) .none) _ _ _ from wpAny_bind ?_)
  unfold Builtin.List.listItems
  refine wpAny_bind (wpAny_seqItems g0 rfl (wpAny_pure (show wpAny _ _ (updateSeq S (fun _ => #[]) >>= fun _ => letGo (#[] : Array Value).toList.reverse >>= fun _ => Builtin.List.listExtendWith (.ref S) (.ref z) .none) _ _ _ from wpAny_bind (wpAny_updateSeq g0 rfl (wpAny_bind (wpAny_letGo ?_))))))
  have g1 := Heap.get?_update_self (Obj.mapSeq (fun _ => (#[] : Array Value))) g0 rfl
  obtain ⟨o1, z1⟩ := wr h0 (fun _ => #[]) _ _ g0
  have st1 := ZS.frame D1 D2 st0 nf1 nf2 ne1 ne2 ne3 ⟨_, g1⟩ o1
  unfold Builtin.List.listExtendWith
  refine wpAny_bind (wpAny_typeOf (st1.type (s := { s with heap := _ })) ?_)
  have b1 : Builtin.List.listSameRef (.ref S) (.ref z) = false := by simp [Builtin.List.listSameRef, ne1]
  rw [if_neg (by rw [b1]; decide)]
  have ty1 : Shared.TypeIs { s with heap := h0.update S (Obj.mapSeq (fun _ => (#[] : Array Value))) } (.ref z) "zip" := st1.type (s := { s with heap := _ })
  refine wpAny_bind (iterZip ty1 ?_)
  refine wpAny_bind (wpAny_holding ?_)
  unfold Builtin.List.listLengthHint
  refine wpAny_bind (wpAny_specialOf ty1 zipNoLen ?_)
  refine (show wpAny _ _ (specialOf (Value.ref z) (Str.ofString "__length_hint__") >>= _) _ _ _ from wpAny_bind (wpAny_specialOf ty1 zipNoHint (wpAny_pure ?_)))
  refine (show wpAny _ _ (rule "list.extend.makes-room" >>= fun _ => Builtin.List.listTouch (.ref S) >>= fun _ => again (.builtin "list.extend.loop" ⟨[.ref S, .ref z, .none], []⟩)) _ _ _ from wpAny_bind (wpAny_rule (wpAny_bind ?_)))
  refine (show wpAny _ _ (updateSeq S (·.push .none) >>= fun _ => updateSeq S (·.pop)) _ _ _ from wpAny_bind (wpAny_updateSeq g1 rfl ?_))
  have g2 := Heap.get?_update_self (Obj.mapSeq (·.push Value.none)) g1 rfl
  obtain ⟨o2, z2⟩ := wr _ (·.push Value.none) _ _ g1
  have g3 := Heap.get?_update_self (Obj.mapSeq (·.pop)) g2 rfl
  obtain ⟨o3, z3⟩ := wr _ (·.pop) _ _ g2
  refine wpAny_updateSeq (hz := by seq_fits) g2 rfl ?_
  have st3 := ZS.frame D1 D2 (ZS.frame D1 D2 st1 nf1 nf2 ne1 ne2 ne3 ⟨_, g2⟩ o2) nf1 nf2 ne1 ne2 ne3 ⟨_, g3⟩ o3
  refine wpAny_pure ⟨plainId_quiet PySem.F.plain_extend_loop _, zipLoop D1 D2 D (t0 := S + 1) hm he hs S nf1 nf2 ne1 ne2 ne3 ne4 ne5 (Nat.lt_succ_self _) ⟨Nat.lt_succ_of_lt l3.1, Nat.lt_succ_of_lt l3.2.2.1, Nat.lt_succ_of_lt l3.2.2.2.1, Nat.lt_succ_of_lt l3.2.2.2.2⟩ _ m 0 _ _ _ rfl (Nat.zero_le _) st3 g3 ?_ ?_ (fun j hj => absurd hj (Nat.not_lt_zero _)) fun h' tk c' kk hS' hl => ⟨rfl, q h' tk c' (fun b o n1 n2 n3 n4 e => ?_) hS' hl⟩⟩
  · simp
  · show (Heap.update _ _ _).objs.size = _
    rw [z3, z2, z1, sz0]
  · have nb : b ≠ S := Nat.ne_of_lt (hS ▸ Heap.lt_size e)
    exact kk b o n1 n2 n3 n4 nb (o3 b o nb (o2 b o nb (o1 b o nb (k0 b o e))))
end
end HT
end
section
set_option Elab.async false
set_option maxRecDepth 10000
set_option linter.all false
namespace L2
open PySem PySem.Spec PyProof.Rows
section
variable {X : Cx} {pins : List (Addr × Obj)} {σ : St} {H : Hp} {s : Shared}
theorem Inv.laidF {H' : Hp} {h' : Heap} {d' : Drawn} {t' : Nat} (I : Inv X pins σ H s) (k : ∀ b u, s.heap.get? b = some u → h'.get? b = some u) (old : ∀ b, b < s.heap.objs.size → H' b = H b) (ext : ∀ b o, H b = some o → H' b = some o)
    (new : ∀ b o, H' b = some o → H b = none → ObjOk X.prog X.w H' h' b o) : Inv X pins σ H' { s with heap := h', drawn := d', toks := t' } := by
  refine I.step (g' := s.gens) (ch := []) (fun _ z => nomatch z) (fun b u _ _ _ e _ => k b u e) (fun b u _ _ _ e _ => ⟨u.slots, k b u e⟩) (fun b u _ e n => by rw [old b (Heap.lt_size e)]; exact n) (fun b u _ e => ⟨u, k b u e⟩)
    (fun b xs e => ext _ _ e) (fun b u xs e => ext _ _ e) (fun b ps e => ⟨#[], by rw [ext _ _ e]; simp⟩) (fun m hm => ?_) (fun b u e => ?_) I.bare (fun n => by rw [old _ I.bigS]; exact n)
  · obtain ⟨ob, es, ep, e, r⟩ := hm
    exact ⟨ob, es, ep, k _ _ e, r⟩
  · cases q : H b with
    | none => exact new b u e q
    | some o =>
      have := ext b o q
      rw [this] at e
      cases e
      exact (I.hok b _ q).stay (fun c v _ q => k c v q) (fun c q => ext _ _ q) fun c xs q => ext _ _ q
end
def tListZip (L : Bool) (ta : TA) : TE := fun σ H Q => ta σ H fun vs H1 => ∃ a b xs ys, vs = [.ref a, .ref b] ∧ H1 a = some (HB L xs) ∧ H1 b = some (HB L ys) ∧ (xs.zip ys).length ≤ 1000000 ∧
  ∀ l t0 H2, H1 l = none → (∀ c o, H1 c = some o → H2 c = some o) → H2 l = some (.lst ((List.range (xs.zip ys).length).map fun j => V.ref (t0 + j))) → (∀ j p, (xs.zip ys)[j]? = some p → H2 (t0 + j) = some (.tup [p.1, p.2])) → Q (.ref l) H2
section
variable {X : Cx}
theorem pe_listZip (L : Bool) {a b : Expr} {ta : TA} {p p2 pos pos2 : Pos} (hc : X.calm = true) (hg : Gl X "list") (hm : X.mg "list" = none) (hg2 : Gl X "zip") (hm2 : X.mg "zip" = none) (ha : PA X [a, b] ta) (hs : starEach [a, b] X.env = [(false, eval a X.env), (false, eval b X.env)] := by rfl) (hs2 : starEach [b] X.env = [(false, eval b X.env)] := by rfl)
    (he2 : starEach [.Call (.Name "zip" p2) [a, b] [] pos2] X.env = [(false, eval (.Call (.Name "zip" p2) [a, b] [] pos2) X.env)] := by rfl) : PE X (.Call (.Name "list" p) [.Call (.Name "zip" p2) [a, b] [] pos2] [] pos) (tListZip L ta) := by
  intro pins s σ H Q I h
  refine wpAny_Call_Name_kw (ld_blt I hg hm (by decide +kernel : bootBuiltins "list" = some (.type "list")) (PyProof.Rows.callWith_type1 ?_ he2 rfl))
  rw [he2]
  refine (show wpAny _ _ (spliced ((false, eval (.Call (.Name "zip" p2) [a, b] [] pos2) X.env) :: backTo pos (starEach [] X.env))) _ _ s from Calls.spliced_cons ?_)
  refine Call_ (ld_blt I hg2 hm2 (by decide +kernel : bootBuiltins "zip" = some (.type "zip")) (PyProof.Rows.callWith_type1 (thn (ha pos2 pins s σ H _ I h) fun us s1 ⟨vs, H1, I1, r1, q1⟩ => ?_) (by rw [hs, hs2]) (by rw [hs2]; rfl)))
  obtain ⟨l, m, xs, ys, e, e1, e2, hl, q⟩ := q1
  subst e
  obtain ⟨us1, us2⟩ : us = [.ref l, .ref m] ∧ True := by
    cases r1 with
    | cons r rr =>
      cases rr with
      | cons r' rr =>
        cases rr
        cases r
        cases r'
        exact ⟨rfl, trivial⟩
  subst us1
  obtain ⟨its1, rv1, p1⟩ := I1.seqB e1
  obtain ⟨its2, rv2, p2⟩ := I1.seqB e2
  have fin : ∀ h', IsZip h' (s1.heap.objs.size + 4) (s1.heap.objs.size + 2) (s1.heap.objs.size + 3) .none → IsPair h' (s1.heap.objs.size + 2) (.ref s1.heap.objs.size) (.ref (s1.heap.objs.size + 1)) → IsPair h' (s1.heap.objs.size + 3) .none .none →
      IterB L h' s1.heap.objs.size l 0 → IterB L h' (s1.heap.objs.size + 1) m 0 → (∀ c o, s1.heap.get? c = some o → h'.get? c = some o) → wpAny (model X.prog X.w) X.A (spliced (backTo pos (starEach [] X.env))) (fun us s2 => wpAny (model X.prog X.w) X.A (call (.type "list") (.ref (s1.heap.objs.size + 4) :: us)) (fun v s3 => ∃ x H', Inv X pins σ H' s3 ∧ RelV x v ∧ Q x H') X.xe s2) X.xe { s1 with heap := h' } := fun h' c1 c2 c3 c4 c5 k => by
    refine Calls.spliced_nil ?_
    generalize hn : s1.heap.objs.size = n at *
    have seqAt : ∀ (t : Addr) (ws : Array Value), SeqB L s1.heap t ws → SeqB L h' t ws ∧ t < n := fun t ws x => by
      cases L with
      | true =>
        refine ⟨Heap.IsList.at x fun o e => k _ _ e, ?_⟩
        obtain ⟨o, e, _⟩ := (show s1.heap.IsList t ws from x)
        exact hn ▸ Heap.lt_size e
      | false =>
        refine ⟨Heap.IsTuple.at x fun o e => k _ _ e, ?_⟩
        obtain ⟨o, e, _⟩ := (show s1.heap.IsTuple t ws from x)
        exact hn ▸ Heap.lt_size e
    obtain ⟨q1, ll⟩ := seqAt _ _ p1
    obtain ⟨q2, lm⟩ := seqAt _ _ p2
    have lz : n + 4 < h'.objs.size := Heap.lt_size c1
    have lz0 : n < h'.objs.size := Nat.lt_trans (Nat.lt_add_of_pos_right (by decide)) lz
    have lz1 : n + 1 < h'.objs.size := Nat.lt_trans (Nat.add_lt_add_left (by decide) n) lz
    have lz2 : n + 2 < h'.objs.size := Nat.lt_trans (Nat.add_lt_add_left (by decide) n) lz
    have lz3 : n + 3 < h'.objs.size := Nat.lt_trans (Nat.add_lt_add_left (by decide) n) lz
    have hh : X.A.in1.in1.in1.handled = none := I1.ok.hd hc
    have sl1 := rv1.length
    have sl2 := rv2.length
    have hlen : (xs.zip ys).length = min its1.length its2.length := by rw [List.length_zip, sl1, sl2]
    refine HT.listZip (z := n + 4) (TI := n + 2) (TO := n + 3) (i1 := n) (i2 := n + 1) (m := (xs.zip ys).length) (drawsB L hh n l (Nat.ne_of_lt ll) its1.toArray) (drawsB L hh (n + 1) m (Nat.ne_of_lt (Nat.lt_succ_of_lt lm)) its2.toArray)
      (apart_of (by simp) (by simp) (by simp) ⟨by simp, by simp, by simp⟩ ⟨by simp, by simp, by simp⟩ (by simp) (by simp only [List.mem_cons, List.not_mem_nil, or_false, not_or]; exact ⟨Nat.ne_of_lt (Nat.lt_of_lt_of_le ll (Nat.le_add_right _ _)), Nat.ne_of_lt (Nat.lt_of_lt_of_le ll (Nat.le_add_right _ _)), Nat.ne_of_lt (Nat.lt_of_lt_of_le ll (Nat.le_add_right _ _)), Nat.ne_of_lt ll, Nat.ne_of_lt (Nat.lt_of_lt_of_le ll (Nat.le_add_right _ _))⟩)
        (by simp only [List.mem_cons, List.not_mem_nil, or_false, not_or]; exact ⟨Nat.ne_of_lt (Nat.lt_of_lt_of_le lm (Nat.le_add_right _ _)), Nat.ne_of_lt (Nat.lt_of_lt_of_le lm (Nat.le_add_right _ _)), Nat.ne_of_lt (Nat.lt_of_lt_of_le lm (Nat.le_add_right _ _)), Nat.ne_of_lt lm, Nat.ne_of_lt (Nat.lt_of_lt_of_le lm (Nat.le_add_right _ _))⟩))
      (fun j hj => by rw [hlen] at hj; simp; omega) (by rw [hlen]; simp; omega) hl ⟨c2, ⟨c4, q1⟩, ⟨c5, q2⟩, .inl ⟨_, _, c1, c3⟩⟩ ?_ ?_ ⟨lz, lz2, lz3, lz0, lz1⟩ fun h2 tk c' kk hS hL => ?_
    · intro b hb
      simp only [List.mem_cons, List.not_mem_nil, or_false] at hb
      show b < h'.objs.size
      rcases hb with rfl | rfl
      · exact lz0
      · exact Nat.lt_trans ll lz0
    · intro b hb
      simp only [List.mem_cons, List.not_mem_nil, or_false] at hb
      show b < h'.objs.size
      rcases hb with rfl | rfl
      · exact lz1
      · exact Nat.lt_trans lm lz0
    · generalize hS' : h'.objs.size = S at *
      have up : ∀ b u, s1.heap.get? b = some u → b < n := fun b u e => hn ▸ Heap.lt_size e
      have k2 : ∀ b u, s1.heap.get? b = some u → h2.get? b = some u := fun b u e => by
        have := up b u e
        exact kk b u (Nat.ne_of_lt (Nat.lt_of_lt_of_le this (Nat.le_add_right _ _))) (Nat.ne_of_lt (Nat.lt_of_lt_of_le this (Nat.le_add_right _ _))) (Nat.ne_of_lt this) (Nat.ne_of_lt (Nat.lt_of_lt_of_le this (Nat.le_add_right _ _))) (k b u e)
      let refs : List V := (List.range (xs.zip ys).length).map fun j => V.ref (S + 1 + j)
      let H2 : Hp := fun b => if b = S then some (.lst refs) else match (if S + 1 ≤ b then (xs.zip ys)[b - (S + 1)]? else none) with | some p => some (.tup [p.1, p.2]) | none => H1 b
      have old : ∀ b, b < n → H2 b = H1 b := fun b hb => by
        have h1 : b ≠ S := Nat.ne_of_lt (Nat.lt_trans hb lz0)
        have h2 : ¬ S + 1 ≤ b := Nat.not_le_of_lt (Nat.lt_trans hb (Nat.lt_succ_of_lt lz0))
        show (if b = S then _ else _) = _
        rw [if_neg h1, if_neg h2]
      have ext : ∀ b o, H1 b = some o → H2 b = some o := fun b o e => by
        obtain ⟨ob, e'⟩ := (I1.hok b o e).obj
        rw [old b (up b ob e')]; exact e
      have hpair : ∀ j p, (xs.zip ys)[j]? = some p → H2 (S + 1 + j) = some (.tup [p.1, p.2]) := fun j p e => by
        show (if S + 1 + j = S then _ else _) = _
        rw [if_neg (by omega), if_pos (by omega), show S + 1 + j - (S + 1) = j by omega, e]
      have hlst : H2 S = some (.lst refs) := by show (if S = S then _ else _) = _; rw [if_pos rfl]
      have fresh : ∀ b, n ≤ b → H1 b = none := fun b hb => I1.hok.fresh (hn ▸ hb)
      refine ⟨.ref S, H2, I1.laidF (h' := h2) (d' := s1.drawn) (t' := tk) k2 (hn ▸ old) ext fun b o e e' => ?_, rfl, q S (S + 1) H2 (fresh S (Nat.le_of_lt lz0)) ext hlst hpair⟩
      by_cases hb : b = S
      · subst hb
        rw [hlst] at e
        cases e
        refine ⟨?_, (List.range (xs.zip ys).length).map (fun j => Value.ref (b + 1 + j)), c', ?_, hS⟩
        · show ((List.range (xs.zip ys).length).map _).length ≤ _
          rw [List.length_map, List.length_range]; exact Nat.le_trans hl (by decide)
        · show Vals ((List.range (xs.zip ys).length).map _) _
          generalize List.range (xs.zip ys).length = r
          induction r with
          | nil => exact .nil
          | cons j r ih => exact .cons rfl ih
      · by_cases hb2 : S + 1 ≤ b
        · obtain ⟨j, rfl⟩ : ∃ j, b = S + 1 + j := ⟨b - (S + 1), (Nat.add_sub_cancel' hb2).symm⟩
          cases hz : (xs.zip ys)[j]? with
          | none =>
            have : H2 (S + 1 + j) = H1 (S + 1 + j) := by
              show (if S + 1 + j = S then _ else _) = _
              rw [if_neg hb, if_pos hb2, show S + 1 + j - (S + 1) = j by omega, hz]
            rw [this, e'] at e; cases e
          | some p =>
            rw [hpair j p hz] at e
            cases e
            obtain ⟨hj, _⟩ := List.getElem?_eq_some_iff.mp hz
            obtain ⟨x, y, r1, r2, t⟩ := hL j hj
            have z1 := List.getElem?_zip_eq_some.mp hz
            obtain ⟨u, hu, ru⟩ := rv1.get z1.1
            obtain ⟨v, hv, rv⟩ := rv2.get z1.2
            have g1 : its1[j]? = some x := by simpa using r1
            have g2 : its2[j]? = some y := by simpa using r2
            rw [hu] at g1
            rw [hv] at g2
            have g1' := Option.some.inj g1
            have g2' := Option.some.inj g2
            rw [g1'] at ru
            rw [g2'] at rv
            exact ⟨(by decide : 2 ≤ sizeLine), [x, y], .cons ru (.cons rv .nil), ⟨_, t, rfl, _, rfl⟩⟩
        · have : H2 b = H1 b := by
            show (if b = S then _ else _) = _
            rw [if_neg hb, if_neg hb2]
          rw [this, e'] at e; cases e
  cases L with
  | true => exact call_zip_2 p1 p2 fun h' c1 c2 c3 c4 c5 _ k => fin h' c1 c2 c3 c4 c5 k
  | false => exact HT.callZipT p1 p2 fun h' c1 c2 c3 c4 c5 k => fin h' c1 c2 c3 c4 c5 k
end
end L2
end
section
set_option Elab.async false
set_option maxRecDepth 10000
set_option linter.all false
namespace VS
open PySem PySem.Spec L2 PyProof.Rows
theorem pairs_rel {Γ : Fr} {μ : Mu} {H : Hp} : ∀ {as bs : List V} {xs ys : List D} (t0 : Nat), VRs Γ μ H as xs → VRs Γ μ H bs ys → (∀ j p, (as.zip bs)[j]? = some p → H (t0 + j) = some (.tup [p.1, p.2])) → VRs Γ μ H ((List.range' t0 (as.zip bs).length).map V.ref) (zipD xs ys)
  | [], _, _, _, _, .nil, _, _ => by simp [zipD]; exact .nil
  | _ :: _, [], _, _, _, .cons _ _, .nil, _ => by simp [zipD]; exact .nil
  | a :: as, b :: bs, _, _, t0, .cons ra rs, .cons rb rt, h => by
    rw [List.zip_cons_cons, List.length_cons, List.range'_succ, List.map_cons, zipD]
    refine .cons (.tup (h 0 (a, b) rfl) (.cons ra (.cons rb .nil))) (pairs_rel (t0 + 1) rs rt fun j p hp => ?_)
    have := h (j + 1) p (by simpa using hp)
    rw [show t0 + 1 + j = t0 + (j + 1) by omega]
    exact this
theorem zipD_lenZ : ∀ (xs ys : List D), (zipD xs ys).length = (xs.zip ys).length
  | [], _ => by simp [zipD]
  | _ :: _, [] => by simp [zipD]
  | _ :: xs, _ :: ys => by simp [zipD, zipD_lenZ xs ys]
def eListZip (a : ASem) : ESem := fun env S => (a env S).bind fun p => match p.1 with
  | [x, y] => (listOf p.2 x).bind fun xs => (listOf p.2 y).bind fun ys => if (zipD xs ys).length ≤ 1000000 then some (.lst true (zipD xs ys), p.2) else none
  | _ => none
theorem je_listZip {X : Cx} {a b : Expr} {f : ASem} {p p2 pos pos2 : Pos} (hc : X.calm = true) (ha : JA X [a, b] f) (hg : Gl X "list") (hm : X.mg "list" = none) (hg2 : Gl X "zip") (hm2 : X.mg "zip" = none) (hs : starEach [a, b] X.env = [(false, eval a X.env), (false, eval b X.env)] := by rfl) (hs2 : starEach [b] X.env = [(false, eval b X.env)] := by rfl)
    (he2 : starEach [.Call (.Name "zip" p2) [a, b] [] pos2] X.env = [(false, eval (.Call (.Name "zip" p2) [a, b] [] pos2) X.env)] := by rfl) : JE X (.Call (.Name "list" p) [.Call (.Name "zip" p2) [a, b] [] pos2] [] pos) (eListZip f) :=
  ⟨PE.imp (pe_listZip true hc hg hm hg2 hm2 ha.pa hs hs2 he2) fun σ H Q h => by
    obtain ⟨Γ, μ, env, S, d, S', hK, R, e, q⟩ := h
    obtain ⟨⟨ds, S1⟩, e1, e⟩ := bind_some e
    dsimp only at e
    split at e
    · rename_i x y
      obtain ⟨xs, e2, e⟩ := bind_some e
      obtain ⟨ys, e3, e⟩ := bind_some e
      by_cases hl : (zipD xs ys).length ≤ 1000000
      · rw [if_pos hl] at e; cases e
        refine ⟨Γ, μ, env, S, [x, y], _, hK, R, e1, fun vs μ1 H1 x1 R1 r1 => ?_⟩
        obtain ⟨v, u, rfl, ra, rb⟩ := r1.two
        obtain ⟨pa, as, rfl, ha', rx⟩ := VR.list R1 ra e2
        obtain ⟨pb, bs, rfl, hb', ry⟩ := VR.list R1 rb e3
        refine ⟨pa, pb, as, bs, rfl, ha', hb', ?_, fun l t0 H2 hn hx hl2 hp => ?_⟩
        · rw [zipD_lenZ, List.length_zip, ← rx.length, ← ry.length] at hl
          rw [List.length_zip]; exact hl
        · obtain ⟨R2, x2⟩ := R1.grow (show Same H1 H2 from hx)
          have hr : (List.range (as.zip bs).length).map (fun j => V.ref (t0 + j)) = (List.range' t0 (as.zip bs).length).map V.ref := by
            rw [List.range'_eq_map_range, List.map_map]; rfl
          exact q _ μ1 H2 (x1.trans x2) R2 (.lst (R1.ok hn true) (R1.dead hn) hl2 (by rw [hr]; exact pairs_rel t0 (rx.ext x2) (ry.ext x2) hp))
      · rw [if_neg hl] at e; cases e
    · cases e⟩
theorem eListZip_eq (a : ASem) (env : VS.Env) (S : Store) : VS.eListZip a env S = (a env S).bind fun p => match p.1 with
  | [x, y] => (listOf p.2 x).bind fun xs => (listOf p.2 y).bind fun ys => if (zipD xs ys).length ≤ 1000000 then some (.lst true (zipD xs ys), p.2) else none
  | _ => none := rfl
end VS
end
section
set_option Elab.async false
set_option maxRecDepth 10000
set_option linter.all false
namespace VS
open PySem PySem.Spec L2
end VS
end
section
set_option Elab.async false
set_option maxRecDepth 10000
set_option linter.all false
namespace HT
open PySem PySem.Spec PyProof PyProof.Rows
def half {α : Type} (a : Nat) (l : List α) : List α := (List.range ((l.length + 1 - a) / 2)).filterMap fun k => l[a + 2 * k]?
theorem half_len {α : Type} (a : Nat) (l : List α) : (half a l).length ≤ l.length := by
  refine Nat.le_trans (List.length_filterMap_le ..) ?_
  rw [List.length_range]
  omega
theorem slicePick_half0 (xs : Array Value) : slicePick xs none none (some 2) = (half 0 xs.toList).toArray := by
  have b : sliceBounds none none (some 2) xs.size = (0, (xs.size : Int), 2) := by simp [sliceBounds]
  unfold slicePick
  rw [b]
  unfold sliceRange half
  simp only [show ((2 : Int) > 0) by decide, if_true]
  have e : (if (0 : Int) < (xs.size : Int) then ((xs.size : Int) - 0 + 2 - 1) / 2 else 0).toNat = (xs.toList.length + 1 - 0) / 2 := by
    rw [Array.length_toList]
    split <;> omega
  rw [e, List.filterMap_map]
  refine congrArg List.toArray (congrArg (fun f => List.filterMap f _) (funext fun k => ?_))
  show xs[((0 : Int) + 2 * (k : Int)).toNat]? = _
  rw [show ((0 : Int) + 2 * (k : Int)).toNat = 0 + 2 * k by omega, Array.getElem?_toList]
theorem slicePick_half1 (xs : Array Value) : slicePick xs (some 1) none (some 2) = (half 1 xs.toList).toArray := by
  have b : sliceBounds (some 1) none (some 2) xs.size = (min 1 (xs.size : Int), (xs.size : Int), 2) := by
    simp [sliceBounds]
    omega
  unfold slicePick
  rw [b]
  unfold sliceRange half
  simp only [show ((2 : Int) > 0) by decide, if_true]
  have e : (if min 1 (xs.size : Int) < (xs.size : Int) then ((xs.size : Int) - min 1 (xs.size : Int) + 2 - 1) / 2 else 0).toNat = (xs.toList.length + 1 - 1) / 2 := by
    rw [Array.length_toList]
    split <;> omega
  rw [e, List.filterMap_map]
  by_cases hn : xs.size = 0
  · have : xs.toList.length = 0 := by rw [Array.length_toList]; exact hn
    rw [this]; rfl
  refine congrArg List.toArray (congrArg (fun f => List.filterMap f _) (funext fun k => ?_))
  show xs[(min 1 (xs.size : Int) + 2 * (k : Int)).toNat]? = _
  rw [show (min 1 (xs.size : Int) + 2 * (k : Int)).toNat = 1 + 2 * k by omega, Array.getElem?_toList]
end HT
namespace L2
open PySem PySem.Spec PyProof PyProof.Rows
theorem Vals.pick {xs : List V} {us : List Value} (r : Vals xs us) : ∀ ks : List Nat, Vals (ks.filterMap (xs[·]?)) (ks.filterMap (us[·]?))
  | [] => .nil
  | k :: ks => by
    have hl := r.length
    cases h : xs[k]? with
    | none =>
      have h' : us[k]? = none := by rw [List.getElem?_eq_none_iff] at h ⊢; omega
      rw [List.filterMap_cons_none h, List.filterMap_cons_none h']
      exact r.pick ks
    | some x =>
      obtain ⟨u, hu, ru⟩ := r.get h
      rw [List.filterMap_cons_some h, List.filterMap_cons_some hu]
      exact .cons ru (r.pick ks)
theorem half_pick {α : Type} (a : Nat) (l : List α) : HT.half a l = ((List.range ((l.length + 1 - a) / 2)).map fun k => a + 2 * k).filterMap (l[·]?) := by
  unfold HT.half
  rw [List.filterMap_map]; rfl
theorem Vals.half {xs : List V} {us : List Value} (r : Vals xs us) (a : Nat) : Vals (HT.half a xs) (HT.half a us) := by
  rw [half_pick, half_pick, ← r.length]
  exact r.pick _
def tHalf (K : PySem.W.Frag) (k : Nat) (te : TE) : TE := fun σ H Q => te σ H fun x H1 => ∃ (a : Addr) (xs : List V), x = .ref a ∧ SqL K H1 a xs ∧ ∀ p, H1 p = none → Q (.ref p) (upd H1 p (.lst (HT.half k xs)))
theorem pe_half0 {X : Cx} {e : Expr} {te : TE} {j : Nat} {p0 p2 pos : Pos} (he : PE X e te) : PE X (.Subscript e (.Slice none none (some (.Constant (.int 2) j p0)) p2) pos) (tHalf X.K 0 te) := by
  intro pins s σ H Q I h
  refine Subscript_ (thn (he pins s σ H _ I h) fun v s1 ⟨x, H1, I1, r1, q1⟩ => ?_)
  obtain ⟨a, xs, rfl, ha, q⟩ := q1
  cases r1
  refine wpAny_Slice ?_
  rw [evalPart_none]
  refine wpAny_pure (wpAny_pure ?_)
  rw [evalPart_some]
  refine thn (pe_int pins s1 σ H1 (fun x H2 => x = .int 2 ∧ H2 = H1) I1 ⟨rfl, rfl⟩) fun u s2 ⟨y, H2, I2, r2, e1, e2⟩ => ?_
  subst e1 e2
  obtain ⟨t0, rfl⟩ := (show ∃ t, u = Value.int 2 t from r2)
  have I4 : Inv X pins σ H2 { s2 with heap := s2.heap.push { cls := .type "slice", data := .fields #[.none, .none, .int 2 t0] } } := I2.kept (t' := s2.toks) fun b ob q => Heap.get?_push_of_some _ q
  obtain ⟨its, rv, ht, hz⟩ := I4.list ha
  have hlen := rv.length
  show wpAny (model X.prog X.w) X.A (subscriptTail e (.Slice none none (some (.Constant (.int 2) j p0)) p2) (.ref a) (.ref s2.heap.objs.size)) (EP X pins σ Q) X.xe { s2 with heap := s2.heap.push { cls := .type "slice", data := .fields #[.none, .none, .int 2 t0] } }
  refine tail_any (ops := [.ref a, .ref s2.heap.objs.size]) ht.isList.typeIs slot_list_getitem.lookup ?_ (by with_unfolding_all rfl)
  refine wpAny_getItem_list_slice ht.isList (Heap.IsSliceOf.new ..) .none .none (.int 2 t0) (by simp) ?_ (by rw [List.size_toArray, ← hlen]; exact hz)
  rw [HT.slicePick_half0]
  refine ⟨.ref _, _, I4.laid (t' := s2.toks) (o := .lst (HT.half 0 xs)) (fun b ob q => Heap.get?_push_of_some _ q) (Nat.le_refl _) ?_, rfl, q _ (I4.hok.fresh (Nat.le_refl _))⟩
  exact ⟨Nat.le_trans (HT.half_len 0 xs) hz, HT.half 0 its, 0, rv.half 0, Heap.get?_push_size _ rfl⟩
theorem pe_half1 {X : Cx} {e : Expr} {te : TE} {i j : Nat} {p0 p1 p2 pos : Pos} (he : PE X e te) : PE X (.Subscript e (.Slice (some (.Constant (.int 1) i p1)) none (some (.Constant (.int 2) j p0)) p2) pos) (tHalf X.K 1 te) := by
  intro pins s σ H Q I h
  refine Subscript_ (thn (he pins s σ H _ I h) fun v s1 ⟨x, H1, I1, r1, q1⟩ => ?_)
  obtain ⟨a, xs, rfl, ha, q⟩ := q1
  cases r1
  refine wpAny_Slice ?_
  rw [evalPart_some]
  refine thn (pe_int pins s1 σ H1 (fun x H2 => x = .int 1 ∧ H2 = H1) I1 ⟨rfl, rfl⟩) fun u s2 ⟨y, H2, I2, r2, e1, e2⟩ => ?_
  subst e1 e2
  obtain ⟨t0, rfl⟩ := (show ∃ t, u = Value.int 1 t from r2)
  rw [evalPart_none]
  refine wpAny_pure ?_
  rw [evalPart_some]
  refine thn (pe_int pins s2 σ H2 (fun x H3 => x = .int 2 ∧ H3 = H2) I2 ⟨rfl, rfl⟩) fun u s3 ⟨y, H3, I3, r3, e1, e2⟩ => ?_
  subst e1 e2
  obtain ⟨t1, rfl⟩ := (show ∃ t, u = Value.int 2 t from r3)
  have I4 : Inv X pins σ H3 { s3 with heap := s3.heap.push { cls := .type "slice", data := .fields #[.int 1 t0, .none, .int 2 t1] } } := I3.kept (t' := s3.toks) fun b ob q => Heap.get?_push_of_some _ q
  obtain ⟨its, rv, ht, hz⟩ := I4.list ha
  have hlen := rv.length
  show wpAny (model X.prog X.w) X.A (subscriptTail e (.Slice (some (.Constant (.int 1) i p1)) none (some (.Constant (.int 2) j p0)) p2) (.ref a) (.ref s3.heap.objs.size)) (EP X pins σ Q) X.xe { s3 with heap := s3.heap.push { cls := .type "slice", data := .fields #[.int 1 t0, .none, .int 2 t1] } }
  refine tail_any (ops := [.ref a, .ref s3.heap.objs.size]) ht.isList.typeIs slot_list_getitem.lookup ?_ (by with_unfolding_all rfl)
  refine wpAny_getItem_list_slice ht.isList (Heap.IsSliceOf.new ..) (.int 1 t0) .none (.int 2 t1) (by simp) ?_ (by rw [List.size_toArray, ← hlen]; exact hz)
  rw [HT.slicePick_half1]
  refine ⟨.ref _, _, I4.laid (t' := s3.toks) (o := .lst (HT.half 1 xs)) (fun b ob q => Heap.get?_push_of_some _ q) (Nat.le_refl _) ?_, rfl, q _ (I4.hok.fresh (Nat.le_refl _))⟩
  exact ⟨Nat.le_trans (HT.half_len 1 xs) hz, HT.half 1 its, 0, rv.half 1, Heap.get?_push_size _ rfl⟩
def Itw (lo : Int) (n : Nat) : It := ⟨fun i _ => i < n, fun i H x H' => H' = H ∧ x = .int (lo + i * 2), fun i _ => n ≤ i⟩
theorem turn_two {P : Program} {w : World} {K : PySem.W.Frag} {tg : Expr} (it : Addr) (lo : Int) (n : Nat) : Turn P w K tg (Itw lo n) [it] it (fun i h => IsRangeIter h it (lo + (i : Nat) * 2) ((n : Int) - (i : Nat)) 2) where
  mem := by simp
  obj := fun i h st b hb => by
    obtain rfl : b = it := by simpa using hb
    exact ⟨_, st, fun v z => by
      have z' : Data.fields _ = Data.cell v := z
      cases z'⟩
  keep := fun i h h' st k => k it (by simp) _ st
  item := by
    intro X hP hw hK hc i pins s σ H E I hf st hg
    subst hP hw hK
    obtain ⟨f0, f1, f2, f3, f4, f5⟩ := hf it (by simp)
    refine (Walks.range (prog := X.prog) (w := X.w) (I.ok.hd hc) it lo 2 n).item i s _ _ hg st fun v h' tk hv st' kk => ?_
    obtain ⟨t, rfl⟩ := hv
    have I1 : Inv X pins σ H { s with heap := h', toks := tk } := I.turned (fun b o hb e => kk b o (by simpa using hb) e) f0 f1 f3 f4 f5
    exact ⟨_, rfl, go_of (s := { s with heap := h', toks := tk }) (n := "range_iterator") st' rfl rfl (by decide) ⟨.int (lo + i * 2), H, I1, ⟨t, rfl⟩, ⟨rfl, rfl⟩, st', fun b hb => (hf b hb).1⟩⟩
  done := by
    intro X hP hw hK hc i pins s σ H E I hf st hg
    subst hP hw hK
    obtain ⟨f0, f1, f2, f3, f4, f5⟩ := hf it (by simp)
    exact wpAny_pyNext_range_end (I.ok.hd hc) st (by have : n ≤ i := hg; omega) fun h' eb => ⟨rfl, I.turned (t' := s.toks) (fun b o hb e => eb b o hb e) f0 f1 f3 f4 f5⟩
  self := fun _ _ _ _ _ st h => wpAny_pyIter_rangeiter st h
theorem small_two {a b : Int} (h1 : -1000000 ≤ a) (h2 : a ≤ 1000000) (h3 : -1000000 ≤ b) (h4 : b ≤ 1000000) : Builtin.Range.small a b 2 = true := by
  unfold Builtin.Range.small
  unfold Builtin.Range.rangeSize
  simp only [Builtin.Range.rangeFitsLong, Bool.and_eq_true, Bool.or_eq_true, decide_eq_true_eq, beq_iff_eq, show (2 : Int) > 0 by decide, if_true]
  split <;> omega
def many2 (lo hi : Int) : Nat := ((hi - lo + 1) / 2).toNat
def iRng3 (ta : TA) : TI := fun σ H R => ta σ H fun vs H1 => ∃ i j : Int, vs = [.int i, .int j, .int 2] ∧ (-1000000 ≤ i ∧ i ≤ 1000000 ∧ -1000000 ≤ j ∧ j ≤ 1000000) ∧ R (Itw i (many2 i j)) H1
theorem pi_range3 {X : Cx} {tg : Expr} {a b c : Expr} {ta : TA} {p pos : Pos} (hg : Gl X "range") (hm : X.mg "range" = none) (ha : PA X [a, b, c] ta) (hs : starEach [a, b, c] X.env = [(false, eval a X.env), (false, eval b X.env), (false, eval c X.env)] := by rfl) (hs2 : starEach [b, c] X.env = [(false, eval b X.env), (false, eval c X.env)] := by rfl) :
    PI X tg (.Call (.Name "range" p) [a, b, c] [] pos) (iRng3 ta) := by
  intro pins s σ H R I h
  refine Call_ (ld_blt I hg hm boot_range (PyProof.Rows.callWith_type1 (thn (ha pos pins s σ H _ I h) fun us s1 ⟨vs, H1, I1, r1, q1⟩ => ?_) (by rw [hs, hs2]) (by rw [hs2]; rfl)))
  obtain ⟨i, j, e, ⟨q1, q2, q3, q4⟩, q⟩ := q1
  subst e
  cases r1 with
  | cons r rr =>
    cases rr with
    | cons r' rr =>
      cases rr with
      | cons r'' rr =>
        cases rr
        obtain ⟨t, rfl⟩ := r
        obtain ⟨t', rfl⟩ := r'
        obtain ⟨t'', rfl⟩ := r''
        refine PySem.call_range_3 (by decide) ?_ (.inl (PyProof.noPylong_small (by decide)))
        refine wpAny_pyIter_range (IsRange.new ..) (small_two q1 q2 q3 q4) ?_
        have I2 : Inv X pins σ H1 { s1 with heap := s1.heap.push { cls := .type "range", data := .fields #[.int i t, .int j t', .int 2 t''] } } := I1.kept (t' := s1.toks) fun b o e => Heap.get?_push_of_some _ e
        refine ⟨_, [_], _, _, H1, rfl, I2.kept (t' := s1.toks) fun b o e => Heap.get?_push_of_some _ e, turn_two _ i (many2 i j), ?_, fun b hb => ?_, q⟩
        · have e1 : i + ((0 : Nat) : Int) * 2 = i := by simp
          have e2 : ((many2 i j : Nat) : Int) - ((0 : Nat) : Int) = Builtin.Range.rangeSize i j 2 := by
            unfold many2 Builtin.Range.rangeSize
            simp only [show (2 : Int) > 0 by decide, if_true]
            split <;> omega
          show IsRangeIter _ _ (i + ((0 : Nat) : Int) * 2) (((many2 i j : Nat) : Int) - ((0 : Nat) : Int)) 2
          rw [e1, e2]
          exact Heap.get?_push_size _ rfl
        · obtain rfl := List.mem_singleton.mp hb
          exact I2.fpOk (Nat.le_refl _) (I2.hok.fresh (Nat.le_refl _))
end L2
end
section
set_option Elab.async false
set_option maxRecDepth 10000
set_option linter.all false
namespace VS
open PySem PySem.Spec L2
theorem VRs.pick {Γ : Fr} {μ : Mu} {H : Hp} {xs : List V} {ds : List D} (r : VRs Γ μ H xs ds) : ∀ ks : List Nat, VRs Γ μ H (ks.filterMap (xs[·]?)) (ks.filterMap (ds[·]?))
  | [] => .nil
  | k :: ks => by
    have hl := r.length
    cases h : ds[k]? with
    | none =>
      have h' : xs[k]? = none := by rw [List.getElem?_eq_none_iff] at h ⊢; omega
      rw [List.filterMap_cons_none h, List.filterMap_cons_none h']
      exact r.pick ks
    | some d =>
      obtain ⟨u, hu, ru⟩ := r.get h
      rw [List.filterMap_cons_some h, List.filterMap_cons_some hu]
      exact .cons ru (r.pick ks)
theorem VRs.half {Γ : Fr} {μ : Mu} {H : Hp} {xs : List V} {ds : List D} (r : VRs Γ μ H xs ds) (a : Nat) : VRs Γ μ H (HT.half a xs) (HT.half a ds) := by
  rw [half_pick, half_pick, r.length]
  exact r.pick _
def oHalf (k : Nat) (S : Store) (x : D) : Option D := (listOf S x).map fun ds => .lst true (HT.half k ds)
theorem wp_half {K : PySem.W.Frag} {k : Nat} {f : ESem} {σ : St} {H : Hp} {Q : VK} (h : wpE K (eUn (oHalf k) f) σ H Q) : tHalf K k (wpE K f) σ H Q := by
  obtain ⟨Γ, μ, env, S, d, S', hK, R, e, q⟩ := h
  obtain ⟨⟨x, S1⟩, e1, e⟩ := bind_some e
  obtain ⟨z, e3, e⟩ := map_some e
  cases e
  refine ⟨Γ, μ, env, S, x, S1, hK, R, e1, fun v1 μ1 H1 x1 R1 r1 => ?_⟩
  obtain ⟨ds, e4, e5⟩ := map_some e3
  subst e5
  obtain ⟨a, xs, rfl, ha, rs⟩ := VR.list R1 r1 e4
  refine ⟨a, xs, rfl, SqL.of ha, fun t ht => ?_⟩
  obtain ⟨R2, x2⟩ := R1.grow (same_new ht (.lst (HT.half k xs)))
  exact q _ μ1 _ (x1.trans x2) R2 (.lst (R1.ok ht true) (R1.dead ht) upd_same ((rs.half k).ext x2))
theorem je_half0 {X : Cx} {e : Expr} {f : ESem} {j : Nat} {p0 p2 pos : Pos} (he : JE X e f) : JE X (.Subscript e (.Slice none none (some (.Constant (.int 2) j p0)) p2) pos) (eUn (oHalf 0) f) := ⟨PE.imp (pe_half0 he.pe) fun σ H Q h => wp_half h⟩
theorem je_half1 {X : Cx} {e : Expr} {f : ESem} {i j : Nat} {p0 p1 p2 pos : Pos} (he : JE X e f) : JE X (.Subscript e (.Slice (some (.Constant (.int 1) i p1)) none (some (.Constant (.int 2) j p0)) p2) pos) (eUn (oHalf 1) f) := ⟨PE.imp (pe_half1 he.pe) fun σ H Q h => wp_half h⟩
def upW (lo : Int) (n : Nat) : List D := (List.range n).map fun i => D.int (lo + (i : Nat) * 2)
theorem it_two {Γ : Fr} {μ : Mu} {H : Hp} (lo : Int) (n : Nat) : ItOk Γ μ H (Itw lo n) (upW lo n) [] := by
  have len : (upW lo n).length = n := by unfold upW; rw [List.length_map, List.length_range]
  refine ⟨fun i d μ' H' σ' env' S' hi x R c => ?_, fun μ' H' σ' env' S' x R c => ?_⟩
  · have hi' : i < n := by rw [← len]; exact (List.getElem?_eq_some_iff.mp hi).1
    refine ⟨hi', fun y H'' yl => ?_⟩
    obtain ⟨e1, e2⟩ := yl
    subst e1 e2
    unfold upW at hi
    rw [List.getElem?_map, List.getElem?_range hi'] at hi
    cases hi
    exact ⟨Same.refl _, .int _⟩
  · show n ≤ (upW lo n).length
    rw [len]; exact Nat.le_refl _
def iRange3 (a : ASem) : ISem := fun env S => (a env S).bind fun p => match p.1 with | [.int i, .int j, .int 2] => if (-1000000 ≤ i ∧ i ≤ 1000000) ∧ -1000000 ≤ j ∧ j ≤ 1000000 then some ((upW i (many2 i j), []), p.2) else none | _ => none
theorem iRange3_eq (a : ASem) (env : VS.Env) (S : Store) : iRange3 a env S = (a env S).bind fun p => match p.1 with | [.int i, .int j, .int 2] => if (-1000000 ≤ i ∧ i ≤ 1000000) ∧ -1000000 ≤ j ∧ j ≤ 1000000 then some ((upW i (many2 i j), []), p.2) else none | _ => none := rfl
theorem VRs.three {Γ : Fr} {μ : Mu} {H : Hp} {vs : List V} {d e f : D} (h : VRs Γ μ H vs [d, e, f]) : ∃ v u t, vs = [v, u, t] ∧ VR Γ μ H v d ∧ VR Γ μ H u e ∧ VR Γ μ H t f := by
  cases h with | cons r t => cases t with | cons r' t => cases t with | cons r'' t => cases t; exact ⟨_, _, _, rfl, r, r', r''⟩
theorem ji_range3 {X : Cx} {tg : Expr} {a b c : Expr} {f : ASem} {p pos : Pos} (hg : Gl X "range") (hm : X.mg "range" = none) (ha : JA X [a, b, c] f) (hs : starEach [a, b, c] X.env = [(false, eval a X.env), (false, eval b X.env), (false, eval c X.env)] := by rfl) (hs2 : starEach [b, c] X.env = [(false, eval b X.env), (false, eval c X.env)] := by rfl) :
    JI X tg (.Call (.Name "range" p) [a, b, c] [] pos) (iRange3 f) :=
  ⟨PI.imp (pi_range3 hg hm ha.pa hs hs2) fun σ H Q h => by
    obtain ⟨Γ, μ, env, S, ds, w, S', hK, R, e, q⟩ := h
    obtain ⟨⟨d, S1⟩, e1, e⟩ := bind_some e
    refine ⟨Γ, μ, env, S, d, S1, hK, R, e1, fun v μ1 H1 x1 R1 r1 => ?_⟩
    dsimp only at e
    split at e
    · rename_i i j
      by_cases hj : (-1000000 ≤ i ∧ i ≤ 1000000) ∧ -1000000 ≤ j ∧ j ≤ 1000000
      · rw [if_pos hj] at e
        cases e
        obtain ⟨v, u, t, rfl, r, r', r''⟩ := r1.three
        cases r
        cases r'
        cases r''
        exact ⟨i, j, rfl, ⟨hj.1.1, hj.1.2, hj.2.1, hj.2.2⟩, q _ μ1 H1 x1 R1 (it_two i _)⟩
      · rw [if_neg hj] at e; cases e
    · cases e⟩
def CBig (i j : Int) : Prop := i.natAbs < 2 ^ 1024 ∧ j.natAbs < 2 ^ 1024
theorem CBig.ok {i j : Int} (h : CBig i j) : IntMulOk i j := by
  have h1 := PyProof.Rows.intBits_le h.1
  have h2 := PyProof.Rows.intBits_le h.2
  have h3 : Builtin.Int.intTooBig (Builtin.Int.intBits i + Builtin.Int.intBits j) = false := by
    unfold Builtin.Int.intTooBig
    refine decide_eq_false ?_
    have : (4096 : Int) ≤ bitsLine := by decide
    omega
  unfold IntMulOk
  rw [h3]
  simp
theorem op_mulB {X : Cx} : OpR X (binaryOp .Mult) (rI CBig fun i j => .int (i * j)) := opI fun _ _ _ _ _ _ _ hc q => PyProof.Rows.mul_int q hc.ok
def cBig (i j : Int) : Bool := decide (i.natAbs < 2 ^ 1024) && decide (j.natAbs < 2 ^ 1024)
def oMulB := oI cBig fun i j => .int (i * j)
theorem sem_mulB {K : PySem.W.Frag} : Sem2 K (rI CBig fun i j => .int (i * j)) oMulB := sem_I _ fun i j h => by
  unfold cBig at h
  rw [Bool.and_eq_true, decide_eq_true_eq, decide_eq_true_eq] at h
  exact h
def oEqS (neg : Bool) (_ : Store) : D → D → Option D
  | .str a, .str b => some (.bl (neg ^^ decide (a = b)))
  | _, _ => none
theorem sem_neS {K : PySem.W.Frag} : Sem2 K rNe2 (oEqS true) := by
  intro Γ μ σ H env S x y dx dy d hK R rx ry e Q q
  unfold oEqS at e
  split at e
  · rename_i a b
    cases e; cases rx; cases ry
    refine .inl ⟨rfl, ?_⟩
    have : decide (V.str a = V.str b) = decide (a = b) := by simp
    rw [this]
    exact q _ H (Same.refl H) (by simpa using VR.bl (!decide (a = b)))
  · cases e
end VS
end
section
set_option Elab.async false
set_option maxRecDepth 10000
set_option linter.all false
namespace W12
open PySem L2 VS
noncomputable def f_is_whole : SSem :=
  (sRet (eAnd (eCB bIsT (aCons (eVar 0) (aCons (eC (.ty "int")) aNil))) (eNot (eCB bIsT (aCons (eVar 0) (aCons (eC (.ty "bool")) aNil))))))
noncomputable def sem_is_whole : PSem := runP 1 1 f_is_whole
noncomputable def f_are_ways : SSem :=
  (sRet (eAnd (eCallP sem_is_whole (aCons (eVar 0) aNil)) (eUn (oTab Bc.D3) (eVar 0))))
noncomputable def sem_are_ways : PSem := runP 1 1 f_are_ways
noncomputable def f_is_stretch : SSem :=
  (sSeq (sIf (tOr (tNot (tVal (eCB bIsT (aCons (eVar 0) (aCons (eC (.ty "tuple")) aNil))))) (tVal (eOp (oEq true) (eCB bLen (aCons (eVar 0) aNil)) (eC (.int 2)))))
    (sRet (eC (.bl false)))
    sNil)
    (sRet (eAnd (eCallP sem_is_whole (aCons (eOp oIx (eVar 0) (eC (.int 0))) aNil)) (eAnd (eCallP sem_is_whole (aCons (eOp oIx (eVar 0) (eC (.int 1))) aNil)) (eOp oLt (eOp oIx (eVar 0) (eC (.int 0))) (eOp oIx (eVar 0) (eC (.int 1))))))))
noncomputable def sem_is_stretch : PSem := runP 1 1 f_is_stretch
noncomputable def is_box_c1 : ASem :=
  aComp 1 [] (iSeq (eVar 1)) (Pat.sem (.nm 0)) tYes (eCallP sem_is_stretch (aCons (eVar 0) aNil))
noncomputable def f_is_box : SSem :=
  (sSeq (sIf (tOr (tNot (tVal (eCallP sem_are_ways (aCons (eVar 0) aNil)))) (tOr (tNot (tVal (eCB bIsT (aCons (eVar 1) (aCons (eC (.ty "tuple")) aNil))))) (tVal (eOp (oEq true) (eCB bLen (aCons (eVar 1) aNil)) (eVar 0)))))
    (sRet (eC (.bl false)))
    sNil)
    (sRet (eCB bAll (aCons (eFrz is_box_c1) aNil))))
noncomputable def sem_is_box : PSem := runP 2 2 f_is_box
noncomputable def is_heap_c1 : ASem :=
  aComp 1 [1] (iSeq (eVar 2)) (Pat.sem (.nm 0)) tYes (eCallP sem_is_box (aCons (eVar 1) (aCons (eVar 0) aNil)))
noncomputable def f_is_heap : SSem :=
  (sSeq (sIf (tOr (tNot (tVal (eCB bIsT (aCons (eVar 0) (aCons (eC (.ty "tuple")) aNil))))) (tVal (eOp (oEq true) (eCB bLen (aCons (eVar 0) aNil)) (eC (.int 2)))))
    (sRet (eC (.bl false)))
    sNil)
    (sSeq (sSet 1 (eOp oIx (eVar 0) (eC (.int 0))))
    (sSeq (sSet 2 (eOp oIx (eVar 0) (eC (.int 1))))
    (sSeq (sIf (tOr (tNot (tVal (eCallP sem_are_ways (aCons (eVar 1) aNil)))) (tOr (tNot (tVal (eCB bIsT (aCons (eVar 2) (aCons (eC (.ty "list")) aNil))))) (tVal (eOp oGt (eCB bLen (aCons (eVar 2) aNil)) (eUn (oTabAt Bc.D3) (eVar 1))))))
    (sRet (eC (.bl false)))
    sNil)
    (sRet (eCB bAll (aCons (eFrz is_heap_c1) aNil)))))))
noncomputable def sem_is_heap : PSem := runP 1 3 f_is_heap
noncomputable def f_need_heap : SSem :=
  (sIf (tNot (tVal (eCallP sem_is_heap (aCons (eVar 0) aNil))))
    sNever
    sNil)
noncomputable def sem_need_heap : PSem := runP 1 1 f_need_heap
noncomputable def f_need_way : SSem :=
  (sIf (tOr (tNot (tVal (eCallP sem_is_whole (aCons (eVar 1) aNil)))) (tOr (tVal (eOp oLt (eVar 1) (eC (.int 0)))) (tVal (eOp oGe (eVar 1) (eOp oIx (eVar 0) (eC (.int 0)))))))
    sNever
    sNil)
noncomputable def sem_need_way : PSem := runP 2 2 f_need_way
noncomputable def cut_boxes_c1 : ASem :=
  aComp 1 [1, 2] (iSeq (eVar 0)) (Pat.sem (.nm 0)) (tVal (eChain oLe oLt (eOp oIx (eOp oIx (eVar 0) (eVar 1)) (eC (.int 0))) (eVar 2) (eOp oIx (eOp oIx (eVar 0) (eVar 1)) (eC (.int 1))))) (eVar 0)
noncomputable def cut_boxes_c2 : ASem :=
  aComp 1 [1] (iSeq (eVar 3)) (Pat.sem (.nm 0)) tYes (eOp oAdd (eSl oSl (eVar 0) oNone (oSome (eVar 1))) (eSl oSl (eVar 0) (oSome (eOp oAdd (eVar 1) (eC (.int 1)))) oNone))
noncomputable def f_cut_boxes : SSem :=
  (sSeq (sSet 3 (eFrz cut_boxes_c1))
    (sRet (eFrz cut_boxes_c2)))
noncomputable def sem_cut_boxes : PSem := runP 3 4 f_cut_boxes
noncomputable def f_cut_at : SSem :=
  (sSeq (sExp (eCallP sem_need_heap (aCons (eVar 0) aNil)))
    (sSeq (sIf (tVal (eOp (oEq false) (eOp oIx (eVar 0) (eC (.int 0))) (eC (.int 1))))
    sNever
    sNil)
    (sSeq (sExp (eCallP sem_need_way (aCons (eVar 0) (aCons (eVar 1) aNil))))
    (sSeq (sIf (tNot (tVal (eCallP sem_is_whole (aCons (eVar 2) aNil))))
    sNever
    sNil)
    (sRet (eTup (aCons (eOp oSub (eOp oIx (eVar 0) (eC (.int 0))) (eC (.int 1))) (aCons (eCallP sem_cut_boxes (aCons (eOp oIx (eVar 0) (eC (.int 1))) (aCons (eVar 1) (aCons (eVar 2) aNil)))) aNil))))))))
noncomputable def sem_cut_at : PSem := runP 3 3 f_cut_at
noncomputable def f_law_mixed : SSem :=
  (sSeq (sSet 2 (eOp oMod (eOp oMul (eOp oAdd (eOp oAdd (eOp oMod (eVar 0) (eC (.int 2147483647))) (eOp oMul (eC (.int 7919)) (eVar 1))) (eC (.int 1))) (eC (.int 48271))) (eC (.int 2147483647))))
    (sSeq (sSet 2 (eOp oMod (eOp oMul (eVar 2) (eVar 2)) (eC (.int 2147483629))))
    (sRet (eOp oDiv (eOp oMod (eOp oMul (eOp oAdd (eVar 2) (eOp oMul (eC (.int 40692)) (eOp oAdd (eVar 1) (eC (.int 3))))) (eC (.int 69621))) (eC (.int 2147483579))) (eC (.int 8))))))
noncomputable def sem_law_mixed : PSem := runP 2 3 f_law_mixed
noncomputable def f_law_pot : SSem :=
  (sRet (eFrz (aCons (eOp oMulB (eOp oMod (eVar 0) (eOp oMulB (eOp oMulB (eOp oMulB (eOp oPow (eC (.int 10)) (eC (.int 50))) (eOp oPow (eC (.int 10)) (eC (.int 50)))) (eOp oPow (eC (.int 10)) (eC (.int 50)))) (eOp oPow (eC (.int 10)) (eC (.int 50))))) (eCB bInt (aCons (eOp oGe (eVar 0) (eOp oPow (eC (.int 10)) (eC (.int 18)))) aNil))) (aCons (eVar 0) (aCons (eC (.int 0)) aNil)))))
noncomputable def sem_law_pot : PSem := runP 1 1 f_law_pot
noncomputable def f_law_take : SSem :=
  (sSeq (sSetIx (eOp oAdd (eOp oIx (eVar 0) (eC (.int 2))) (eC (.int 1))) (eVar 0) (eC (.int 2)))
    (sSeq (sIf (tVal (eOp oGt (eOp oIx (eVar 0) (eC (.int 0))) (eC (.int 0))))
    (sSeq (sSet 2 (eOp oMod (eOp oIx (eVar 0) (eC (.int 0))) (eVar 1)))
    (sSeq (sSetIx (eOp oDiv (eOp oIx (eVar 0) (eC (.int 0))) (eVar 1)) (eVar 0) (eC (.int 0)))
    (sRet (eVar 2))))
    sNil)
    (sRet (eOp oMod (eCallP sem_law_mixed (aCons (eOp oIx (eVar 0) (eC (.int 1))) (aCons (eOp oIx (eVar 0) (eC (.int 2))) aNil))) (eVar 1)))))
noncomputable def sem_law_take : MSem := runM 2 3 f_law_take
noncomputable def law_mixed_up_c1 : ASem :=
  aComp 1 [2, 0] (iSeq (eVar 1)) (Pat.sem (.nm 0)) tYes (eMeth mPopAt (eVar 1) (aCons (eCallM sem_law_take (aCons (eVar 2) (aCons (eCB bLen (aCons (eVar 1) aNil)) aNil))) aNil))
noncomputable def f_law_mixed_up : SSem :=
  (sSeq (sSet 2 (eNewS nList (aCons (eVar 1) aNil)))
    (sRet (eFrz law_mixed_up_c1)))
noncomputable def sem_law_mixed_up : MSem := runM 2 3 f_law_mixed_up
noncomputable def law_unlike_c1 : ASem :=
  aComp 2 [] (iSeq (eVar 6)) (Pat.sem (.tp [(.nm 0), (.nm 1)])) tYes (eTup (aCons (eCB bMin2 (aCons (eVar 0) (aCons (eVar 1) aNil))) (aCons (eCB bMax2 (aCons (eVar 0) (aCons (eVar 1) aNil))) aNil)))
noncomputable def law_unlike_b1 : SSem :=
  (sSeq (sSet 5 (eCallM sem_law_mixed_up (aCons (eVar 0) (aCons (eListRange (aCons (eOp oMul (eC (.int 2)) (eVar 2)) aNil)) aNil))))
    (sSeq (sSet 6 (eListZip (aCons (eUn (oHalf 0) (eVar 5)) (aCons (eUn (oHalf 1) (eVar 5)) aNil))))
    (sExp (eMeth mAppend (eVar 3) (aCons (eFrz law_unlike_c1) aNil)))))
noncomputable def law_unlike_l1 : SSem :=
  sFor (iRange1 (aCons (eVar 1) aNil)) (Pat.sem (.nm 4))
    law_unlike_b1
noncomputable def law_unlike_c2 : ASem :=
  aComp 1 [0] (iSeq (eVar 1)) (Pat.sem (.nm 0)) tYes (eOp oIx (eVar 0) (eVar 1))
noncomputable def law_unlike_c3 : ASem :=
  aComp 1 [3] (iRange1 (aCons (eVar 2) aNil)) (Pat.sem (.nm 0)) tYes (eCB bTup (aCons (eFrz law_unlike_c2) aNil))
noncomputable def f_law_unlike : SSem :=
  (sSeq (sSet 3 (eSto aNil))
    (sSeq law_unlike_l1
    (sRet (eFrz law_unlike_c3))))
noncomputable def sem_law_unlike : MSem := runM 3 7 f_law_unlike
noncomputable def law_small_b1 : SSem :=
  (sSeq (sSet 10 (eCallM sem_law_take (aCons (eVar 0) (aCons (eVar 5) aNil))))
    (sExp (eMeth mAppend (eVar 8) (aCons (eTup (aCons (eVar 10) (aCons (eOp oAdd (eOp oAdd (eVar 10) (eC (.int 1))) (eOp oIx (eFrz (aCons (eC (.int 0)) (aCons (eCallM sem_law_take (aCons (eVar 0) (aCons (eOp oSub (eVar 5) (eVar 10)) aNil))) aNil))) (eCallM sem_law_take (aCons (eVar 0) (aCons (eC (.int 2)) aNil))))) aNil))) aNil))))
noncomputable def law_small_l1 : SSem :=
  sFor (iRange1 (aCons (eVar 1) aNil)) (Pat.sem (.nm 9))
    law_small_b1
noncomputable def law_small_b2 : SSem :=
  (sSeq (sSet 8 (eSto aNil))
    (sSeq law_small_l1
    (sExp (eMeth mAppend (eVar 6) (aCons (eCB bTup (aCons (eVar 8) aNil)) aNil)))))
noncomputable def law_small_l2 : SSem :=
  sFor (iRange1 (aCons (eVar 4) aNil)) (Pat.sem (.nm 7))
    law_small_b2
noncomputable def law_small_c1 : ASem :=
  aComp 1 [] (iRange3 (aCons (eC (.int 0)) (aCons (eOp oMul (eC (.int 2)) (eVar 2)) (aCons (eC (.int 2)) aNil)))) (Pat.sem (.nm 0)) tYes (eTup (aCons (eTup (aCons (eOp oMod (eVar 0) (eC (.int 3))) (aCons (eOp oAdd (eOp oMod (eVar 0) (eC (.int 3))) (eC (.int 1))) aNil))) (aCons (eTup (aCons (eOp oDiv (eVar 0) (eC (.int 3))) (aCons (eOp oAdd (eOp oDiv (eVar 0) (eC (.int 3))) (eC (.int 1))) aNil))) aNil)))
noncomputable def f_law_small : SSem :=
  (sSeq (sSet 4 (eOp oIx (eFrz (aCons (eCallM sem_law_take (aCons (eVar 0) (aCons (eOp oAdd (eVar 2) (eC (.int 1))) aNil))) (aCons (eVar 2) (aCons (eOp oAdd (eC (.int 1)) (eCallM sem_law_take (aCons (eVar 0) (aCons (eVar 2) aNil)))) aNil)))) (eCallM sem_law_take (aCons (eVar 0) (aCons (eC (.int 3)) aNil)))))
    (sSeq (sSet 5 (eOp oIx (eFrz (aCons (eC (.int 2)) (aCons (eC (.int 3)) (aCons (eC (.int 5)) (aCons (eVar 3) aNil))))) (eCallM sem_law_take (aCons (eVar 0) (aCons (eC (.int 4)) aNil)))))
    (sSeq (sSet 6 (eSto aNil))
    (sSeq law_small_l2
    (sSeq (sSet 11 (eCallM sem_law_take (aCons (eVar 0) (aCons (eC (.int 8)) aNil))))
    (sSeq (sIf (tAnd (tVal (eOp (oEq false) (eVar 11) (eC (.int 1)))) (tVal (eOp oGt (eVar 4) (eC (.int 1)))))
    (sSetIx (eOp oIx (eVar 6) (eCallM sem_law_take (aCons (eVar 0) (aCons (eOp oSub (eVar 4) (eC (.int 1))) aNil)))) (eVar 6) (eUn oNeg (eC (.int 1))))
    sNil)
    (sSeq (sIf (tAnd (tVal (eOp (oEq false) (eVar 1) (eC (.int 2)))) (tVal (eOp (oEq false) (eVar 11) (eC (.int 2)))))
    (sSeq (sSet 12 (eFrz (aCons (eTup (aCons (eTup (aCons (eC (.int 0)) (aCons (eC (.int 3)) aNil))) (aCons (eTup (aCons (eC (.int 0)) (aCons (eC (.int 1)) aNil))) aNil))) (aCons (eTup (aCons (eTup (aCons (eC (.int 0)) (aCons (eC (.int 3)) aNil))) (aCons (eTup (aCons (eC (.int 2)) (aCons (eC (.int 3)) aNil))) aNil))) (aCons (eTup (aCons (eTup (aCons (eC (.int 0)) (aCons (eC (.int 1)) aNil))) (aCons (eTup (aCons (eC (.int 0)) (aCons (eC (.int 3)) aNil))) aNil))) (aCons (eTup (aCons (eTup (aCons (eC (.int 2)) (aCons (eC (.int 3)) aNil))) (aCons (eTup (aCons (eC (.int 0)) (aCons (eC (.int 3)) aNil))) aNil))) aNil))))))
    (sSet 6 (eOp oAdd (eVar 12) (eSl oSl (eVar 6) oNone (oSome (eCallM sem_law_take (aCons (eVar 0) (aCons (eOp oSub (eVar 2) (eC (.int 3))) aNil))))))))
    sNil)
    (sSeq (sIf (tAnd (tVal (eOp (oEq false) (eVar 1) (eC (.int 2)))) (tVal (eOp (oEq false) (eVar 11) (eC (.int 3)))))
    (sSet 6 (eSto law_small_c1))
    sNil)
    (sSeq (sIf (tAnd (tVal (eOp oGt (eVar 11) (eC (.int 5)))) (tVal (eOp oGt (eVar 3) (eC (.int 8)))))
    (sSet 6 (eThawM sem_law_unlike (aCons (eVar 0) (aCons (eVar 1) (aCons (eVar 4) aNil)))))
    sNil)
    (sRet (eVar 6)))))))))))
noncomputable def sem_law_small : MSem := runM 4 13 f_law_small
noncomputable def law_marks_b1 : SSem :=
  (sExp (eMeth mAppend (eVar 4) (aCons (eCB bMin2 (aCons (eOp oAdd (eOp oAdd (eOp oIx (eVar 4) (eUn oNeg (eC (.int 1)))) (eC (.int 1))) (eCallM sem_law_take (aCons (eVar 0) (aCons (eVar 2) aNil)))) (aCons (eOp oAdd (eOp oSub (eOp oSub (eOp oPow (eC (.int 10)) (eC (.int 9))) (eC (.int 200))) (eVar 1)) (eVar 5)) aNil))) aNil)))
noncomputable def law_marks_l1 : SSem :=
  sFor (iRange1 (aCons (eVar 1) aNil)) (Pat.sem (.nm 5))
    law_marks_b1
noncomputable def f_law_marks : SSem :=
  (sSeq (sSet 2 (eOp oIx (eFrz (aCons (eC (.int 1)) (aCons (eC (.int 3)) (aCons (eOp oDiv (eOp oPow (eC (.int 10)) (eC (.int 9))) (eVar 1)) aNil)))) (eCallM sem_law_take (aCons (eVar 0) (aCons (eC (.int 3)) aNil)))))
    (sSeq (sSet 3 (eOp oIx (eFrz (aCons (eC (.int 0)) (aCons (eOp oSub (eC (.int 0)) (eCallM sem_law_take (aCons (eVar 0) (aCons (eC (.int 10)) aNil)))) (aCons (eOp oSub (eC (.int 0)) (eOp oPow (eC (.int 10)) (eC (.int 9)))) aNil)))) (eCallM sem_law_take (aCons (eVar 0) (aCons (eC (.int 3)) aNil)))))
    (sSeq (sSet 4 (eSto (aCons (eVar 3) aNil)))
    (sSeq law_marks_l1
    (sSeq (sIf (tVal (eOp (oEq false) (eCallM sem_law_take (aCons (eVar 0) (aCons (eC (.int 3)) aNil))) (eC (.int 0))))
    (sSetIx (eOp oPow (eC (.int 10)) (eC (.int 9))) (eVar 4) (eUn oNeg (eC (.int 1))))
    sNil)
    (sSeq (sIf (tVal (eOp (oEq false) (eCallM sem_law_take (aCons (eVar 0) (aCons (eC (.int 6)) aNil))) (eC (.int 0))))
    (sSetIx (eOp oSub (eC (.int 0)) (eOp oPow (eC (.int 10)) (eC (.int 9)))) (eVar 4) (eC (.int 0)))
    sNil)
    (sRet (eVar 4))))))))
noncomputable def sem_law_marks : MSem := runM 2 6 f_law_marks
noncomputable def law_heap_c1 : ASem :=
  aComp 1 [0, 3] (iRange1 (aCons (eVar 1) aNil)) (Pat.sem (.nm 0)) tYes (eCallM sem_law_marks (aCons (eVar 1) (aCons (eVar 2) aNil)))
noncomputable def law_heap_c2 : ASem :=
  aComp 3 [] (iZipS (aCons (eVar 5) (aCons (eVar 7) aNil))) (Pat.sem (.tp [(.nm 0), (.tp [(.nm 1), (.nm 2)])])) tYes (eTup (aCons (eOp oIx (eVar 0) (eVar 1)) (aCons (eOp oIx (eVar 0) (eVar 2)) aNil)))
noncomputable def law_heap_b1 : SSem :=
  (sExp (eMeth mAppend (eVar 6) (aCons (eCB bTup (aCons (eFrz law_heap_c2) aNil)) aNil)))
noncomputable def law_heap_l1 : SSem :=
  sFor (iSeq (eVar 4)) (Pat.sem (.nm 7))
    law_heap_b1
noncomputable def f_law_heap : SSem :=
  (sSeq (sSet 3 (eOp oIx (eFrz (aCons (eC (.int 8)) (aCons (eOp oIx (eFrz (aCons (eC (.int 0)) (aCons (eC (.int 40)) (aCons (eC (.int 20)) (aCons (eC (.int 12)) aNil))))) (eVar 1)) aNil))) (eCB bInt (aCons (eOp (oEq false) (eCallM sem_law_take (aCons (eVar 0) (aCons (eC (.int 3)) aNil))) (eC (.int 0))) aNil))))
    (sSeq (sSet 4 (eCallM sem_law_small (aCons (eVar 0) (aCons (eVar 1) (aCons (eVar 2) (aCons (eVar 3) aNil))))))
    (sSeq (sSet 5 (eFrz law_heap_c1))
    (sSeq (sSet 6 (eSto aNil))
    (sSeq law_heap_l1
    (sRet (eTup (aCons (eVar 4) (aCons (eVar 5) (aCons (eTup (aCons (eVar 1) (aCons (eVar 6) aNil))) aNil))))))))))
noncomputable def sem_law_heap : MSem := runM 3 8 f_law_heap
noncomputable def f_law_own : SSem :=
  (sRet (eTup (aCons (eOp oIx (eVar 0) (eC (.int 0))) (aCons (eNewF nList (aCons (eOp oIx (eVar 0) (eC (.int 1))) aNil)) aNil))))
noncomputable def sem_law_own : PSem := runP 1 1 f_law_own
noncomputable def law_due_c1 : ASem :=
  aComp 1 [4, 1] (iRange1 (aCons (eOp oIx (eVar 0) (eC (.int 0))) aNil)) (Pat.sem (.nm 0)) (tVal (eOp (oEq true) (eVar 0) (eVar 2))) (eOp oIx (eVar 1) (eVar 0))
noncomputable def law_due_b1 : SSem :=
  (sSeq (sAsg (eOp oIx (eVar 4) (eVar 1)) (Pat.sem (.tp [(.nm 5), (.nm 6)])))
    (sIf (tAnd (tVal (eOp oLe (eVar 5) (eVar 2))) (tVal (eOp oLt (eVar 2) (eVar 6))))
    (sExp (eMeth mAppend (eVar 3) (aCons (eCB bTup (aCons (eFrz law_due_c1) aNil)) aNil)))
    sNil))
noncomputable def law_due_l1 : SSem :=
  sFor (iSeq (eOp oIx (eVar 0) (eC (.int 1)))) (Pat.sem (.nm 4))
    law_due_b1
noncomputable def f_law_due : SSem :=
  (sSeq (sSet 3 (eSto aNil))
    (sSeq law_due_l1
    (sRet (eTup (aCons (eOp oSub (eOp oIx (eVar 0) (eC (.int 0))) (eC (.int 1))) (aCons (eVar 3) aNil))))))
noncomputable def sem_law_due : PSem := runP 3 7 f_law_due
noncomputable def law_ends_b1 : SSem :=
  (sExp (eMeth mExtend (eVar 2) (aCons (eNewF nList (aCons (eOp oIx (eVar 3) (eVar 1)) aNil)) aNil)))
noncomputable def law_ends_l1 : SSem :=
  sFor (iSeq (eOp oIx (eVar 0) (eC (.int 1)))) (Pat.sem (.nm 3))
    law_ends_b1
noncomputable def f_law_ends : SSem :=
  (sSeq (sSet 2 (eSto aNil))
    (sSeq law_ends_l1
    (sRet (eVar 2))))
noncomputable def sem_law_ends : PSem := runP 2 4 f_law_ends
noncomputable def law_right_b1 : SSem :=
  (sSeq (sSet 6 (eThawP sem_cut_at (aCons (eVar 0) (aCons (eVar 2) (aCons (eVar 3) aNil)))))
    (sSeq (sIf (tOr (tVal (eOp (oEqS true) (eCB bRepr (aCons (eVar 6) aNil)) (eCB bRepr (aCons (eVar 4) aNil)))) (tVal (eOp (oEq true) (eVar 0) (eVar 1))))
    (sRet (eC (.bl false)))
    sNil)
    (sExp (eMeth mAppend (eOp oIx (eVar 6) (eC (.int 1))) (aCons (eC .non) aNil)))))
noncomputable def law_right_l1 : SSem :=
  sFor (iRange1 (aCons (eC (.int 2)) aNil)) (Pat.sem (.nm 5))
    law_right_b1
noncomputable def f_law_right : SSem :=
  (sSeq (sSet 4 (eCallP sem_law_due (aCons (eVar 1) (aCons (eVar 2) (aCons (eVar 3) aNil)))))
    (sSeq law_right_l1
    (sRet (eC (.bl true)))))
noncomputable def sem_law_right : PSem := runP 4 7 f_law_right
noncomputable def law_b1 : SSem :=
  (sIf (tOr (tNot (tVal (eCallP sem_law_right (aCons (eVar 7) (aCons (eVar 6) (aCons (eVar 8) (aCons (eVar 10) aNil))))))) (tNot (tVal (eCallP sem_law_right (aCons (eVar 7) (aCons (eVar 6) (aCons (eVar 8) (aCons (eOp oSub (eVar 10) (eC (.int 1))) aNil))))))))
    (sRet (eC (.bl false)))
    sNil)
noncomputable def law_l1 : SSem :=
  sFor (iSeq (eVar 9)) (Pat.sem (.nm 10))
    law_b1
noncomputable def law_b2 : SSem :=
  (sSeq (sSet 9 (eCallP sem_law_ends (aCons (eVar 6) (aCons (eVar 8) aNil))))
    (sSeq (sSet 9 (eOp oAdd (eVar 9) (eFrz (aCons (eOp oIx (eOp oIx (eVar 5) (eVar 8)) (eCallM sem_law_take (aCons (eVar 2) (aCons (eCB bLen (aCons (eOp oIx (eVar 5) (eVar 8)) aNil)) aNil)))) (aCons (eOp oPow (eC (.int 10)) (eC (.int 39))) (aCons (eOp oSub (eC (.int 0)) (eOp oPow (eC (.int 10)) (eC (.int 39)))) (aCons (eCallM sem_law_take (aCons (eVar 2) (aCons (eC (.int 9)) aNil))) aNil)))))))
    law_l1))
noncomputable def law_l2 : SSem :=
  sFor (iRange1 (aCons (eVar 3) aNil)) (Pat.sem (.nm 8))
    law_b2
noncomputable def law_b3 : SSem :=
  (sSeq (sSet 2 (eThawP sem_law_pot (aCons (eVar 1) aNil)))
    (sSeq (sSet 3 (eOp oAdd (eC (.int 2)) (eCallM sem_law_take (aCons (eVar 2) (aCons (eC (.int 2)) aNil)))))
    (sSeq (sAsg (eCallM sem_law_heap (aCons (eVar 2) (aCons (eVar 3) (aCons (eOp oIx (eFrz (aCons (eC (.int 10)) (aCons (eC (.int 6)) aNil))) (eOp oSub (eVar 3) (eC (.int 2)))) aNil)))) (Pat.sem (.tp [(.nm 4), (.nm 5), (.nm 6)])))
    (sSeq (sSet 7 (eCallP sem_law_own (aCons (eVar 6) aNil)))
    law_l2))))
noncomputable def law_l3 : SSem :=
  sFor (iSeq (eOp oAdd (eSl oSl (eVar 0) oNone (oSome (eC (.int 4)))) (eFrz (aCons (eCB bLen (aCons (eVar 0) aNil)) aNil)))) (Pat.sem (.nm 1))
    law_b3
noncomputable def f_law : SSem :=
  (sSeq law_l3
    (sRet (eAnd (eOp (oEq false) (eCallP sem_cut_at (aCons (eTup (aCons (eC (.int 2)) (aCons (eFrz (aCons (eTup (aCons (eTup (aCons (eC (.int 0)) (aCons (eC (.int 2)) aNil))) (aCons (eTup (aCons (eC (.int 5)) (aCons (eC (.int 7)) aNil))) aNil))) aNil)) aNil))) (aCons (eC (.int 0)) (aCons (eC (.int 1)) aNil)))) (eTup (aCons (eC (.int 1)) (aCons (eFrz (aCons (eTup (aCons (eTup (aCons (eC (.int 5)) (aCons (eC (.int 7)) aNil))) aNil)) aNil)) aNil)))) (eOp (oEq false) (eCallP sem_cut_at (aCons (eTup (aCons (eC (.int 3)) (aCons (eFrz aNil) aNil))) (aCons (eC (.int 2)) (aCons (eC (.int 0)) aNil)))) (eTup (aCons (eC (.int 2)) (aCons (eFrz aNil) aNil)))))))
noncomputable def sem_law : PSem := runP 1 11 f_law
end W12
end
section
set_option Elab.async false
set_option maxRecDepth 10000
set_option linter.all false
namespace W12
open PySem PySem.Spec L2 VS
def top (i : Nat) : Stmt := PySem.Challenge.pw_boxcover_k12_cuts_told.main.body.getD i (.Pass ⟨0, 0, 0, 0⟩)
abbrev s_is_whole : Stmt := top 7
abbrev s_are_ways : Stmt := top 8
abbrev s_is_stretch : Stmt := top 9
abbrev s_is_box : Stmt := top 10
abbrev s_is_heap : Stmt := top 11
abbrev s_need_heap : Stmt := top 12
abbrev s_need_way : Stmt := top 14
abbrev s_cut_boxes : Stmt := top 15
abbrev s_cut_at : Stmt := top 16
abbrev s_law_mixed : Stmt := top 18
abbrev s_law_pot : Stmt := top 19
abbrev s_law_take : Stmt := top 20
abbrev s_law_mixed_up : Stmt := top 21
abbrev s_law_unlike : Stmt := top 22
abbrev s_law_small : Stmt := top 23
abbrev s_law_marks : Stmt := top 24
abbrev s_law_heap : Stmt := top 25
abbrev s_law_own : Stmt := top 26
abbrev s_law_due : Stmt := top 27
abbrev s_law_ends : Stmt := top 28
abbrev s_law_right : Stmt := top 29
abbrev s_law : Stmt := top 30
theorem sc_is_whole : FnScope ["thing"] ["thing"] (defScope s_is_whole) := ⟨rfl, rfl, rfl, by decide +kernel, rfl, by decide +kernel, by decide +kernel⟩
theorem sc_are_ways : FnScope ["thing"] ["thing"] (defScope s_are_ways) := ⟨rfl, rfl, rfl, by decide +kernel, rfl, by decide +kernel, by decide +kernel⟩
theorem sc_is_stretch : FnScope ["thing"] ["thing"] (defScope s_is_stretch) := ⟨rfl, rfl, rfl, by decide +kernel, rfl, by decide +kernel, by decide +kernel⟩
theorem sc_is_box : FnScope ["ways", "thing"] ["ways", "thing"] (defScope s_is_box) := ⟨rfl, rfl, rfl, by decide +kernel, rfl, by decide +kernel, by decide +kernel⟩
theorem sc_is_heap : FnScope ["thing", "ways", "boxes"] ["thing"] (defScope s_is_heap) := ⟨rfl, rfl, rfl, by decide +kernel, rfl, by decide +kernel, by decide +kernel⟩
theorem sc_need_heap : FnScope ["heap"] ["heap"] (defScope s_need_heap) := ⟨rfl, rfl, rfl, by decide +kernel, rfl, by decide +kernel, by decide +kernel⟩
theorem sc_need_way : FnScope ["heap", "way"] ["heap", "way"] (defScope s_need_way) := ⟨rfl, rfl, rfl, by decide +kernel, rfl, by decide +kernel, by decide +kernel⟩
theorem sc_cut_boxes : FnScope ["boxes", "way", "number", "there"] ["boxes", "way", "number"] (defScope s_cut_boxes) := ⟨rfl, rfl, rfl, by decide +kernel, rfl, by decide +kernel, by decide +kernel⟩
theorem sc_cut_at : FnScope ["heap", "way", "number"] ["heap", "way", "number"] (defScope s_cut_at) := ⟨rfl, rfl, rfl, by decide +kernel, rfl, by decide +kernel, by decide +kernel⟩
theorem sc_law_mixed : FnScope ["cell", "k", "number"] ["cell", "k"] (defScope s_law_mixed) := ⟨rfl, rfl, rfl, by decide +kernel, rfl, by decide +kernel, by decide +kernel⟩
theorem sc_law_pot : FnScope ["cell"] ["cell"] (defScope s_law_pot) := ⟨rfl, rfl, rfl, by decide +kernel, rfl, by decide +kernel, by decide +kernel⟩
theorem sc_law_take : FnScope ["pot", "many", "told"] ["pot", "many"] (defScope s_law_take) := ⟨rfl, rfl, rfl, by decide +kernel, rfl, by decide +kernel, by decide +kernel⟩
theorem sc_law_mixed_up : FnScope ["pot", "things", "left"] ["pot", "things"] (defScope s_law_mixed_up) := ⟨rfl, rfl, rfl, by decide +kernel, rfl, by decide +kernel, by decide +kernel⟩
theorem sc_law_unlike : FnScope ["pot", "ways", "count", "sides", "way", "ends", "two"] ["pot", "ways", "count"] (defScope s_law_unlike) := ⟨rfl, rfl, rfl, by decide +kernel, rfl, by decide +kernel, by decide +kernel⟩
theorem sc_law_small : FnScope ["pot", "ways", "most", "many", "count", "wide", "found", "k", "box", "way", "low", "kind", "ring"] ["pot", "ways", "most", "many"] (defScope s_law_small) := ⟨rfl, rfl, rfl, by decide +kernel, rfl, by decide +kernel, by decide +kernel⟩
theorem sc_law_marks : FnScope ["pot", "many", "step", "here", "found", "k"] ["pot", "many"] (defScope s_law_marks) := ⟨rfl, rfl, rfl, by decide +kernel, rfl, by decide +kernel, by decide +kernel⟩
theorem sc_law_heap : FnScope ["pot", "ways", "most", "many", "small", "marks", "boxes", "box"] ["pot", "ways", "most"] (defScope s_law_heap) := ⟨rfl, rfl, rfl, by decide +kernel, rfl, by decide +kernel, by decide +kernel⟩
theorem sc_law_own : FnScope ["heap"] ["heap"] (defScope s_law_own) := ⟨rfl, rfl, rfl, by decide +kernel, rfl, by decide +kernel, by decide +kernel⟩
theorem sc_law_due : FnScope ["heap", "way", "number", "found", "box", "low", "high"] ["heap", "way", "number"] (defScope s_law_due) := ⟨rfl, rfl, rfl, by decide +kernel, rfl, by decide +kernel, by decide +kernel⟩
theorem sc_law_ends : FnScope ["heap", "way", "found", "box"] ["heap", "way"] (defScope s_law_ends) := ⟨rfl, rfl, rfl, by decide +kernel, rfl, by decide +kernel, by decide +kernel⟩
theorem sc_law_right : FnScope ["handed", "heap", "way", "number", "due", "turn", "found"] ["handed", "heap", "way", "number"] (defScope s_law_right) := ⟨rfl, rfl, rfl, by decide +kernel, rfl, by decide +kernel, by decide +kernel⟩
theorem sc_law : FnScope ["script", "cell", "pot", "ways", "small", "marks", "heap", "handed", "way", "some", "number"] ["script"] (defScope s_law) := ⟨rfl, rfl, rfl, by decide +kernel, rfl, by decide +kernel, by decide +kernel⟩
section
variable {P : Program} {w : World} {K : PySem.W.Frag} {mg : Str → Option Value} {base : Heap}
set_option maxHeartbeats 4000000 in
theorem ok_is_whole {f : Addr} {fd : FuncData} (F : Fun K "is_whole" "is_whole" s_is_whole f fd) (B : Blt mg) : FnOk P w K mg base CX0 1 f fd ["thing"] (spP K sem_is_whole 1) :=
  fnP F sc_is_whole fun cdv A outer s H E hr =>
    (jss_one (js_ret (je_and (je_callB call_isT sem_isT rfl (B.is "isinstance") bt_isinstance (ja_cons (je_var 0) (ja_cons (je_ty (n := "int") rfl (B.is "int") bt_int) ja_nil))) (je_one (je_not (je_callB call_isT sem_isT rfl (B.is "isinstance") bt_isinstance (ja_cons (je_var 0) (ja_cons (je_ty (n := "bool") rfl (B.is "bool") bt_bool) ja_nil))))))))
set_option maxHeartbeats 4000000 in
theorem ok_are_ways {f : Addr} {fd : FuncData} (F : Fun K "are_ways" "are_ways" s_are_ways f fd) (B : Blt mg) {d_MOST_BOXES : Addr} (M_MOST_BOXES : mg "MOST_BOXES" = some (.ref d_MOST_BOXES)) (T_MOST_BOXES : ∀ h, K.In h → PyProof.Rows.IntTab P w h d_MOST_BOXES Bc.D3) (c_is_whole : CalP P w K mg base "is_whole" 1 sem_is_whole) : FnOk P w K mg base CX0 2 f fd ["thing"] (spP K sem_are_ways 1) :=
  fnP F sc_are_ways fun cdv A outer s H E hr =>
    (jss_one (js_ret (je_and (je_callP c_is_whole hr (by omega) rfl (ja_cons (je_var 0) ja_nil)) (je_one (je_inTab T_MOST_BOXES (je_var 0) rfl M_MOST_BOXES)))))
set_option maxHeartbeats 4000000 in
theorem ok_is_stretch {f : Addr} {fd : FuncData} (F : Fun K "is_stretch" "is_stretch" s_is_stretch f fd) (B : Blt mg) (c_is_whole : CalP P w K mg base "is_whole" 1 sem_is_whole) : FnOk P w K mg base CX0 2 f fd ["thing"] (spP K sem_is_stretch 1) :=
  fnP F sc_is_stretch fun cdv A outer s H E hr =>
    (jss_cons (js_if (jt_of (jw_or (jt_not (jt_val (je_callB call_isT sem_isT rfl (B.is "isinstance") bt_isinstance (ja_cons (je_var 0) (ja_cons (je_ty (n := "tuple") rfl (B.is "tuple") bt_tuple) ja_nil))))) (jw_or1 (jt_cmp (op_ne2 hr) sem_ne (je_callB call_len_seq sem_len rfl (B.is "len") bt_len (ja_cons (je_var 0) ja_nil)) je_int (nomark _)))))
      (jss_one (js_ret je_bl))
      jss_nil)
      (jss_one (js_ret (je_and (je_callP c_is_whole hr (by omega) rfl (ja_cons (je_ix ix_seq sem_ix (je_var 0) je_int (fun _ _ => rfl)) ja_nil)) (je_and (je_callP c_is_whole hr (by omega) rfl (ja_cons (je_ix ix_seq sem_ix (je_var 0) je_int (fun _ _ => rfl)) ja_nil)) (je_one (je_cmp op_lt sem_lt (je_ix ix_seq sem_ix (je_var 0) je_int (fun _ _ => rfl)) (je_ix ix_seq sem_ix (je_var 0) je_int (fun _ _ => rfl)) (nomark _))))))))
set_option maxHeartbeats 4000000 in
theorem ok_is_box {f : Addr} {fd : FuncData} (F : Fun K "is_box" "is_box" s_is_box f fd) (B : Blt mg) (c_are_ways : CalP P w K mg base "are_ways" 2 sem_are_ways) (c_is_stretch : CalP P w K mg base "is_stretch" 2 sem_is_stretch) : FnOk P w K mg base CX0 3 f fd ["ways", "thing"] (spP K sem_is_box 2) :=
  fnP F sc_is_box fun cdv A outer s H E hr =>
    (jss_cons (js_if (jt_of (jw_or (jt_not (jt_val (je_callP c_are_ways hr (by omega) rfl (ja_cons (je_var 0) ja_nil)))) (jw_or (jt_not (jt_val (je_callB call_isT sem_isT rfl (B.is "isinstance") bt_isinstance (ja_cons (je_var 1) (ja_cons (je_ty (n := "tuple") rfl (B.is "tuple") bt_tuple) ja_nil))))) (jw_or1 (jt_cmp (op_ne2 hr) sem_ne (je_callB call_len_seq sem_len rfl (B.is "len") bt_len (ja_cons (je_var 1) ja_nil)) (je_var 0) (nomark _))))))
      (jss_one (js_ret je_bl))
      jss_nil)
      (jss_one (js_ret (je_callB (call_all rfl) sem_all rfl (B.is "all") bt_all (ja_cons (je_compF rfl (CompOk.of (sc := defScope s_is_box) (N := ["ways", "thing"]) (N2 := ["part"]) (k := 1) (caps := []) (by decide +kernel)) rfl (ji_seq (je_var 1)) ⟨fun _ _ _ _ _ => ⟨(jg_name (i := 0) (show List.Nodup (["part"] : List Str) by decide +kernel)), jts_nil, (je_callP c_is_stretch hr (by omega) rfl (ja_cons (je_var 0) ja_nil))⟩⟩) ja_nil)))))
set_option maxHeartbeats 4000000 in
theorem ok_is_heap {f : Addr} {fd : FuncData} (F : Fun K "is_heap" "is_heap" s_is_heap f fd) (B : Blt mg) {d_MOST_BOXES : Addr} (M_MOST_BOXES : mg "MOST_BOXES" = some (.ref d_MOST_BOXES)) (T_MOST_BOXES : ∀ h, K.In h → PyProof.Rows.IntTab P w h d_MOST_BOXES Bc.D3) (c_are_ways : CalP P w K mg base "are_ways" 2 sem_are_ways) (c_is_box : CalP P w K mg base "is_box" 3 sem_is_box) : FnOk P w K mg base CX0 4 f fd ["thing"] (spP K sem_is_heap 1) :=
  fnP F sc_is_heap fun cdv A outer s H E hr =>
    (jss_cons (js_if (jt_of (jw_or (jt_not (jt_val (je_callB call_isT sem_isT rfl (B.is "isinstance") bt_isinstance (ja_cons (je_var 0) (ja_cons (je_ty (n := "tuple") rfl (B.is "tuple") bt_tuple) ja_nil))))) (jw_or1 (jt_cmp (op_ne2 hr) sem_ne (je_callB call_len_seq sem_len rfl (B.is "len") bt_len (ja_cons (je_var 0) ja_nil)) je_int (nomark _)))))
      (jss_one (js_ret je_bl))
      jss_nil)
      (jss_cons (js_set (i := 1) sc_is_heap.nd (je_ix ix_seq sem_ix (je_var 0) je_int (fun _ _ => rfl)))
      (jss_cons (js_set (i := 2) sc_is_heap.nd (je_ix ix_seq sem_ix (je_var 0) je_int (fun _ _ => rfl)))
      (jss_cons (js_if (jt_of (jw_or (jt_not (jt_val (je_callP c_are_ways hr (by omega) rfl (ja_cons (je_var 1) ja_nil)))) (jw_or (jt_not (jt_val (je_callB call_isT sem_isT rfl (B.is "isinstance") bt_isinstance (ja_cons (je_var 2) (ja_cons (je_ty (n := "list") rfl (B.is "list") bt_list) ja_nil))))) (jw_or1 (jt_cmp op_gt sem_gt (je_callB call_len_seq sem_len rfl (B.is "len") bt_len (ja_cons (je_var 2) ja_nil)) (je_ixTab T_MOST_BOXES (je_var 1) rfl M_MOST_BOXES (fun _ _ => rfl)) (nomark _))))))
      (jss_one (js_ret je_bl))
      jss_nil)
      (jss_one (js_ret (je_callB (call_all rfl) sem_all rfl (B.is "all") bt_all (ja_cons (je_compF rfl (CompOk.of (sc := defScope s_is_heap) (N := ["thing", "ways", "boxes"]) (N2 := ["box", "ways"]) (k := 1) (caps := [1]) (by decide +kernel)) rfl (ji_seq (je_var 2)) ⟨fun _ _ _ _ _ => ⟨(jg_name (i := 0) (show List.Nodup (["box", "ways"] : List Str) by decide +kernel)), jts_nil, (je_callP c_is_box hr (by omega) rfl (ja_cons (je_var 1) (ja_cons (je_var 0) ja_nil)))⟩⟩) ja_nil))))))))
set_option maxHeartbeats 4000000 in
theorem ok_need_heap {f : Addr} {fd : FuncData} (F : Fun K "need_heap" "need_heap" s_need_heap f fd) (B : Blt mg) (c_is_heap : CalP P w K mg base "is_heap" 4 sem_is_heap) : FnOk P w K mg base CX0 5 f fd ["heap"] (spP K sem_need_heap 1) :=
  fnP F sc_need_heap fun cdv A outer s H E hr =>
    (jss_one (js_if (jt_not (jt_val (je_callP c_is_heap hr (by omega) rfl (ja_cons (je_var 0) ja_nil))))
      (jss_one js_never)
      jss_nil))
set_option maxHeartbeats 4000000 in
theorem ok_need_way {f : Addr} {fd : FuncData} (F : Fun K "need_way" "need_way" s_need_way f fd) (B : Blt mg) (c_is_whole : CalP P w K mg base "is_whole" 1 sem_is_whole) : FnOk P w K mg base CX0 2 f fd ["heap", "way"] (spP K sem_need_way 2) :=
  fnP F sc_need_way fun cdv A outer s H E hr =>
    (jss_one (js_if (jt_of (jw_or (jt_not (jt_val (je_callP c_is_whole hr (by omega) rfl (ja_cons (je_var 1) ja_nil)))) (jw_or (jt_cmp op_lt sem_lt (je_var 1) je_int (nomark _)) (jw_or1 (jt_cmp op_ge sem_ge (je_var 1) (je_ix ix_seq sem_ix (je_var 0) je_int (fun _ _ => rfl)) (nomark _))))))
      (jss_one js_never)
      jss_nil))
set_option maxHeartbeats 4000000 in
theorem ok_cut_boxes {f : Addr} {fd : FuncData} (F : Fun K "cut_boxes" "cut_boxes" s_cut_boxes f fd) (B : Blt mg) : FnOk P w K mg base CX0 1 f fd ["boxes", "way", "number"] (spP K sem_cut_boxes 3) :=
  fnP F sc_cut_boxes fun cdv A outer s H E hr =>
    (jss_cons (js_setCompF (i := 3) rfl sc_cut_boxes.nd (CompOk.of (sc := defScope s_cut_boxes) (N := ["boxes", "way", "number", "there"]) (N2 := ["box", "way", "number"]) (k := 1) (caps := [1, 2]) (by decide +kernel)) rfl (ji_seq (je_var 0)) ⟨fun _ _ _ _ _ => ⟨(jg_name (i := 0) (show List.Nodup (["box", "way", "number"] : List Str) by decide +kernel)), (jts_one (jt_chain op_le sem_le op_lt sem_lt (je_ix ix_seq sem_ix (je_ix ix_seq sem_ix (je_var 0) (je_var 1) (fun _ _ => rfl)) je_int (fun _ _ => rfl)) (je_var 2) (je_ix ix_seq sem_ix (je_ix ix_seq sem_ix (je_var 0) (je_var 1) (fun _ _ => rfl)) je_int (fun _ _ => rfl)))), (je_var 0)⟩⟩)
      (jss_one (js_ret (je_compF rfl (CompOk.of (sc := defScope s_cut_boxes) (N := ["boxes", "way", "number", "there"]) (N2 := ["box", "way"]) (k := 1) (caps := [1]) (by decide +kernel)) rfl (ji_seq (je_var 3)) ⟨fun _ _ _ _ _ => ⟨(jg_name (i := 0) (show List.Nodup (["box", "way"] : List Str) by decide +kernel)), jts_nil, (je_op op_add4 sem_add (je_slice sl_two sem_sl (je_var 0) jo_none (jo_some (je_var 1))) (je_slice sl_two sem_sl (je_var 0) (jo_some (je_op op_add4 sem_add (je_var 1) je_int)) jo_none))⟩⟩))))
set_option maxHeartbeats 4000000 in
theorem ok_cut_at {f : Addr} {fd : FuncData} (F : Fun K "cut_at" "cut_at" s_cut_at f fd) (B : Blt mg) (c_need_heap : CalP P w K mg base "need_heap" 5 sem_need_heap) (c_need_way : CalP P w K mg base "need_way" 2 sem_need_way) (c_is_whole : CalP P w K mg base "is_whole" 1 sem_is_whole) (c_cut_boxes : CalP P w K mg base "cut_boxes" 1 sem_cut_boxes) : FnOk P w K mg base CX0 6 f fd ["heap", "way", "number"] (spP K sem_cut_at 3) :=
  fnP F sc_cut_at fun cdv A outer s H E hr =>
    (jss_cons (js_exp (je_callP c_need_heap hr (by omega) rfl (ja_cons (je_var 0) ja_nil)))
      (jss_cons (js_if (jt_cmp (op_eq2 hr) sem_eq (je_ix ix_seq sem_ix (je_var 0) je_int (fun _ _ => rfl)) je_int (nomark _))
      (jss_one js_never)
      jss_nil)
      (jss_cons (js_exp (je_callP c_need_way hr (by omega) rfl (ja_cons (je_var 0) (ja_cons (je_var 1) ja_nil))))
      (jss_cons (js_if (jt_not (jt_val (je_callP c_is_whole hr (by omega) rfl (ja_cons (je_var 2) ja_nil))))
      (jss_one js_never)
      jss_nil)
      (jss_one (js_ret (je_tup (ja_cons (je_op op_sub sem_sub (je_ix ix_seq sem_ix (je_var 0) je_int (fun _ _ => rfl)) je_int) (ja_cons (je_callP c_cut_boxes hr (by omega) rfl (ja_cons (je_ix ix_seq sem_ix (je_var 0) je_int (fun _ _ => rfl)) (ja_cons (je_var 1) (ja_cons (je_var 2) ja_nil)))) ja_nil)) (few_cons (few_cons few_nil)))))))))
set_option maxHeartbeats 4000000 in
theorem ok_law_mixed {f : Addr} {fd : FuncData} (F : Fun K "_law_mixed" "_law_mixed" s_law_mixed f fd) (B : Blt mg) : FnOk P w K mg base CX0 1 f fd ["cell", "k"] (spP K sem_law_mixed 2) :=
  fnP F sc_law_mixed fun cdv A outer s H E hr =>
    (jss_cons (js_set (i := 2) sc_law_mixed.nd (je_op op_mod sem_mod (je_op op_mul3 sem_mul (je_op op_add4 sem_add (je_op op_add4 sem_add (je_op op_mod sem_mod (je_var 0) je_int) (je_op op_mul3 sem_mul je_int (je_var 1))) je_int) je_int) je_int))
      (jss_cons (js_set (i := 2) sc_law_mixed.nd (je_op op_mod sem_mod (je_op op_mul3 sem_mul (je_var 2) (je_var 2)) je_int))
      (jss_one (js_ret (je_op op_fdiv2 sem_div (je_op op_mod sem_mod (je_op op_mul3 sem_mul (je_op op_add4 sem_add (je_var 2) (je_op op_mul3 sem_mul je_int (je_op op_add4 sem_add (je_var 1) je_int))) je_int) je_int) je_int)))))
set_option maxHeartbeats 4000000 in
theorem ok_law_pot {f : Addr} {fd : FuncData} (F : Fun K "_law_pot" "_law_pot" s_law_pot f fd) (B : Blt mg) : FnOk P w K mg base CX0 1 f fd ["cell"] (spP K sem_law_pot 1) :=
  fnP F sc_law_pot fun cdv A outer s H E hr =>
    (jss_one (js_ret (je_lstF (ja_cons (je_op op_mulB sem_mulB (je_op op_mod sem_mod (je_var 0) (je_op op_mulB sem_mulB (je_op op_mulB sem_mulB (je_op op_mulB sem_mulB (je_op op_pow sem_pow je_int je_int) (je_op op_pow sem_pow je_int je_int)) (je_op op_pow sem_pow je_int je_int)) (je_op op_pow sem_pow je_int je_int))) (je_callTy call_int1 sem_int rfl (B.is "int") bt_int (ja_cons (je_cmp op_ge sem_ge (je_var 0) (je_op op_pow sem_pow je_int je_int) (nomark _)) ja_nil))) (ja_cons (je_var 0) (ja_cons je_int ja_nil))) (few_cons (few_cons (few_cons few_nil))))))
set_option maxHeartbeats 4000000 in
theorem ok_law_take {f : Addr} {fd : FuncData} (F : Fun K "_law_take" "_law_take" s_law_take f fd) (B : Blt mg) (c_law_mixed : CalP P w K mg base "_law_mixed" 1 sem_law_mixed) : FnOk P w K mg base CX0 2 f fd ["pot", "many"] (spM K sem_law_take 2) :=
  fnM F sc_law_take fun cdv A outer s H E hr =>
    (jss_cons (js_setIx (je_op op_add4 sem_add (je_ix ix_seq sem_ix (je_var 0) je_int (fun _ _ => rfl)) je_int) (je_var 0) je_int)
      (jss_cons (js_if (jt_cmp op_gt sem_gt (je_ix ix_seq sem_ix (je_var 0) je_int (fun _ _ => rfl)) je_int (nomark _))
      (jss_cons (js_set (i := 2) sc_law_take.nd (je_op op_mod sem_mod (je_ix ix_seq sem_ix (je_var 0) je_int (fun _ _ => rfl)) (je_var 1)))
      (jss_cons (js_setIx (je_op op_fdiv2 sem_div (je_ix ix_seq sem_ix (je_var 0) je_int (fun _ _ => rfl)) (je_var 1)) (je_var 0) je_int)
      (jss_one (js_ret (je_var 2)))))
      jss_nil)
      (jss_one (js_ret (je_op op_mod sem_mod (je_callP c_law_mixed hr (by omega) rfl (ja_cons (je_ix ix_seq sem_ix (je_var 0) je_int (fun _ _ => rfl)) (ja_cons (je_ix ix_seq sem_ix (je_var 0) je_int (fun _ _ => rfl)) ja_nil))) (je_var 1))))))
set_option maxHeartbeats 4000000 in
theorem ok_law_mixed_up {f : Addr} {fd : FuncData} (F : Fun K "_law_mixed_up" "_law_mixed_up" s_law_mixed_up f fd) (B : Blt mg) (c_law_take : CalM P w K mg base "_law_take" 2 sem_law_take) : FnOk P w K mg base CX0 3 f fd ["pot", "things"] (spM K sem_law_mixed_up 2) :=
  fnM F sc_law_mixed_up fun cdv A outer s H E hr =>
    (jss_cons (js_set (i := 2) sc_law_mixed_up.nd (je_newS call_list_of sem_list rfl (B.is "list") bt_list (ja_cons (je_var 1) ja_nil)))
      (jss_one (js_ret (je_compF rfl (CompOk.of (sc := defScope s_law_mixed_up) (N := ["pot", "things", "left"]) (N2 := ["thing", "left", "pot"]) (k := 1) (caps := [2, 0]) (by decide +kernel)) rfl (ji_seq (je_var 1)) ⟨fun _ _ _ _ _ => ⟨(jg_name (i := 0) (show List.Nodup (["thing", "left", "pot"] : List Str) by decide +kernel)), jts_nil, (je_meth PySem.F.plainAttrs_list PySem.F.slot_list_pop PySem.F.type_list_pop mt_popAt sm_popAt (je_var 1) (ja_cons (je_callM c_law_take hr (by omega) rfl (ja_cons (je_var 2) (ja_cons (je_callB call_len_seq sem_len rfl (B.is "len") bt_len (ja_cons (je_var 1) ja_nil)) ja_nil))) ja_nil))⟩⟩))))
set_option maxHeartbeats 4000000 in
theorem ok_law_unlike {f : Addr} {fd : FuncData} (F : Fun K "_law_unlike" "_law_unlike" s_law_unlike f fd) (B : Blt mg) (Bz : mg "zip" = none) (c_law_mixed_up : CalM P w K mg base "_law_mixed_up" 3 sem_law_mixed_up) : FnOk P w K mg base CX0 4 f fd ["pot", "ways", "count"] (spM K sem_law_unlike 3) :=
  fnM F sc_law_unlike fun cdv A outer s H E hr =>
    (jss_cons (js_set (i := 3) sc_law_unlike.nd (je_lstS ja_nil few_nil))
      (jss_cons (js_for rfl (ji_range1 rfl (B.is "range") (ja_cons (je_var 1) ja_nil)) (jg_name (i := 4) sc_law_unlike.nd)
      (jss_cons (js_set (i := 5) sc_law_unlike.nd (je_callM c_law_mixed_up hr (by omega) rfl (ja_cons (je_var 0) (ja_cons (je_listRange rfl (ja_cons (je_op op_mul3 sem_mul je_int (je_var 2)) ja_nil) rfl (B.is "list") rfl (B.is "range")) ja_nil))))
      (jss_cons (js_set (i := 6) sc_law_unlike.nd (je_listZip rfl (ja_cons (je_half0 (je_var 5)) (ja_cons (je_half1 (je_var 5)) ja_nil)) rfl (B.is "list") rfl Bz))
      (jss_one (js_exp (je_meth PySem.F.plainAttrs_list PySem.F.slot_list_append PySem.F.type_list_append mt_append sm_append (je_var 3) (ja_cons (je_compF rfl (CompOk.of (sc := defScope s_law_unlike) (N := ["pot", "ways", "count", "sides", "way", "ends", "two"]) (N2 := ["one", "other"]) (k := 2) (caps := []) (by decide +kernel)) rfl (ji_seq (je_var 6)) ⟨fun _ _ _ _ _ => ⟨(jg_tup rfl (jgs_cons (jg_name (i := 0) (show List.Nodup (["one", "other"] : List Str) by decide +kernel)) (jgs_cons (jg_name (i := 1) (show List.Nodup (["one", "other"] : List Str) by decide +kernel)) jgs_nil))), jts_nil, (je_tup (ja_cons (je_callB (call_min2 rfl) sem_min2 rfl (B.is "min") bt_min (ja_cons (je_var 0) (ja_cons (je_var 1) ja_nil))) (ja_cons (je_callB (call_max2 rfl) sem_max2 rfl (B.is "max") bt_max (ja_cons (je_var 0) (ja_cons (je_var 1) ja_nil))) ja_nil)) (few_cons (few_cons few_nil)))⟩⟩) ja_nil)))))) PassesOwn.never)
      (jss_one (js_ret (je_compF rfl (CompOk.of (sc := defScope s_law_unlike) (N := ["pot", "ways", "count", "sides", "way", "ends", "two"]) (N2 := ["k", "sides"]) (k := 1) (caps := [3]) (by decide +kernel)) rfl (ji_range1 rfl (B.is "range") (ja_cons (je_var 2) ja_nil)) ⟨fun _ _ _ _ _ => ⟨(jg_name (i := 0) (show List.Nodup (["k", "sides"] : List Str) by decide +kernel)), jts_nil, (je_callTy call_tuple_of sem_tuple rfl (B.is "tuple") bt_tuple (ja_cons (je_compF rfl (CompOk.of (N := ["k", "sides"]) (N2 := ["side", "k"]) (k := 1) (caps := [0]) (by kernel_rfl)) rfl (ji_seq (je_var 1)) ⟨fun _ _ _ _ _ => ⟨(jg_name (i := 0) (show List.Nodup (["side", "k"] : List Str) by decide +kernel)), jts_nil, (je_ix ix_seq sem_ix (je_var 0) (je_var 1) (fun _ _ => rfl))⟩⟩) ja_nil))⟩⟩)))))
set_option maxHeartbeats 4000000 in
theorem ok_law_small {f : Addr} {fd : FuncData} (F : Fun K "_law_small" "_law_small" s_law_small f fd) (B : Blt mg) (c_law_take : CalM P w K mg base "_law_take" 2 sem_law_take) (c_law_unlike : CalM P w K mg base "_law_unlike" 4 sem_law_unlike) : FnOk P w K mg base CX0 5 f fd ["pot", "ways", "most", "many"] (spM K sem_law_small 4) :=
  fnM F sc_law_small fun cdv A outer s H E hr =>
    (jss_cons (js_set (i := 4) sc_law_small.nd (je_ix ix_seq sem_ix (je_lstF (ja_cons (je_callM c_law_take hr (by omega) rfl (ja_cons (je_var 0) (ja_cons (je_op op_add4 sem_add (je_var 2) je_int) ja_nil))) (ja_cons (je_var 2) (ja_cons (je_op op_add4 sem_add je_int (je_callM c_law_take hr (by omega) rfl (ja_cons (je_var 0) (ja_cons (je_var 2) ja_nil)))) ja_nil))) (few_cons (few_cons (few_cons few_nil)))) (je_callM c_law_take hr (by omega) rfl (ja_cons (je_var 0) (ja_cons je_int ja_nil))) (fun _ _ => rfl)))
      (jss_cons (js_set (i := 5) sc_law_small.nd (je_ix ix_seq sem_ix (je_lstF (ja_cons je_int (ja_cons je_int (ja_cons je_int (ja_cons (je_var 3) ja_nil)))) (few_cons (few_cons (few_cons (few_cons few_nil))))) (je_callM c_law_take hr (by omega) rfl (ja_cons (je_var 0) (ja_cons je_int ja_nil))) (fun _ _ => rfl)))
      (jss_cons (js_set (i := 6) sc_law_small.nd (je_lstS ja_nil few_nil))
      (jss_cons (js_for rfl (ji_range1 rfl (B.is "range") (ja_cons (je_var 4) ja_nil)) (jg_name (i := 7) sc_law_small.nd)
      (jss_cons (js_set (i := 8) sc_law_small.nd (je_lstS ja_nil few_nil))
      (jss_cons (js_for rfl (ji_range1 rfl (B.is "range") (ja_cons (je_var 1) ja_nil)) (jg_name (i := 9) sc_law_small.nd)
      (jss_cons (js_set (i := 10) sc_law_small.nd (je_callM c_law_take hr (by omega) rfl (ja_cons (je_var 0) (ja_cons (je_var 5) ja_nil))))
      (jss_one (js_exp (je_meth PySem.F.plainAttrs_list PySem.F.slot_list_append PySem.F.type_list_append mt_append sm_append (je_var 8) (ja_cons (je_tup (ja_cons (je_var 10) (ja_cons (je_op op_add4 sem_add (je_op op_add4 sem_add (je_var 10) je_int) (je_ix ix_seq sem_ix (je_lstF (ja_cons je_int (ja_cons (je_callM c_law_take hr (by omega) rfl (ja_cons (je_var 0) (ja_cons (je_op op_sub sem_sub (je_var 5) (je_var 10)) ja_nil))) ja_nil)) (few_cons (few_cons few_nil))) (je_callM c_law_take hr (by omega) rfl (ja_cons (je_var 0) (ja_cons je_int ja_nil))) (fun _ _ => rfl))) ja_nil)) (few_cons (few_cons few_nil))) ja_nil))))) PassesOwn.never)
      (jss_one (js_exp (je_meth PySem.F.plainAttrs_list PySem.F.slot_list_append PySem.F.type_list_append mt_append sm_append (je_var 6) (ja_cons (je_callTy call_tuple_of sem_tuple rfl (B.is "tuple") bt_tuple (ja_cons (je_var 8) ja_nil)) ja_nil)))))) PassesOwn.never)
      (jss_cons (js_set (i := 11) sc_law_small.nd (je_callM c_law_take hr (by omega) rfl (ja_cons (je_var 0) (ja_cons je_int ja_nil))))
      (jss_cons (js_if (jt_of (jw_and (jt_cmp (op_eq2 hr) sem_eq (je_var 11) je_int (nomark _)) (jw_and1 (jt_cmp op_gt sem_gt (je_var 4) je_int (nomark _)))))
      (jss_one (js_setIx (je_ix ix_seq sem_ix (je_var 6) (je_callM c_law_take hr (by omega) rfl (ja_cons (je_var 0) (ja_cons (je_op op_sub sem_sub (je_var 4) je_int) ja_nil))) (fun _ _ => rfl)) (je_var 6) (je_un un_neg sem_neg je_int)))
      jss_nil)
      (jss_cons (js_if (jt_of (jw_and (jt_cmp (op_eq2 hr) sem_eq (je_var 1) je_int (nomark _)) (jw_and1 (jt_cmp (op_eq2 hr) sem_eq (je_var 11) je_int (nomark _)))))
      (jss_cons (js_set (i := 12) sc_law_small.nd (je_lstF (ja_cons (je_tup (ja_cons (je_tup (ja_cons je_int (ja_cons je_int ja_nil)) (few_cons (few_cons few_nil))) (ja_cons (je_tup (ja_cons je_int (ja_cons je_int ja_nil)) (few_cons (few_cons few_nil))) ja_nil)) (few_cons (few_cons few_nil))) (ja_cons (je_tup (ja_cons (je_tup (ja_cons je_int (ja_cons je_int ja_nil)) (few_cons (few_cons few_nil))) (ja_cons (je_tup (ja_cons je_int (ja_cons je_int ja_nil)) (few_cons (few_cons few_nil))) ja_nil)) (few_cons (few_cons few_nil))) (ja_cons (je_tup (ja_cons (je_tup (ja_cons je_int (ja_cons je_int ja_nil)) (few_cons (few_cons few_nil))) (ja_cons (je_tup (ja_cons je_int (ja_cons je_int ja_nil)) (few_cons (few_cons few_nil))) ja_nil)) (few_cons (few_cons few_nil))) (ja_cons (je_tup (ja_cons (je_tup (ja_cons je_int (ja_cons je_int ja_nil)) (few_cons (few_cons few_nil))) (ja_cons (je_tup (ja_cons je_int (ja_cons je_int ja_nil)) (few_cons (few_cons few_nil))) ja_nil)) (few_cons (few_cons few_nil))) ja_nil)))) (few_cons (few_cons (few_cons (few_cons few_nil))))))
      (jss_one (js_set (i := 6) sc_law_small.nd (je_op op_add4 sem_add (je_var 12) (je_slice sl_two sem_sl (je_var 6) jo_none (jo_some (je_callM c_law_take hr (by omega) rfl (ja_cons (je_var 0) (ja_cons (je_op op_sub sem_sub (je_var 2) je_int) ja_nil)))))))))
      jss_nil)
      (jss_cons (js_if (jt_of (jw_and (jt_cmp (op_eq2 hr) sem_eq (je_var 1) je_int (nomark _)) (jw_and1 (jt_cmp (op_eq2 hr) sem_eq (je_var 11) je_int (nomark _)))))
      (jss_one (js_setCompS (i := 6) rfl sc_law_small.nd (CompOk.of (sc := defScope s_law_small) (N := ["pot", "ways", "most", "many", "count", "wide", "found", "k", "box", "way", "low", "kind", "ring"]) (N2 := ["k"]) (k := 1) (caps := []) (by decide +kernel)) rfl (ji_range3 rfl (B.is "range") (ja_cons je_int (ja_cons (je_op op_mul3 sem_mul je_int (je_var 2)) (ja_cons je_int ja_nil)))) ⟨fun _ _ _ _ _ => ⟨(jg_name (i := 0) (show List.Nodup (["k"] : List Str) by decide +kernel)), jts_nil, (je_tup (ja_cons (je_tup (ja_cons (je_op op_mod sem_mod (je_var 0) je_int) (ja_cons (je_op op_add4 sem_add (je_op op_mod sem_mod (je_var 0) je_int) je_int) ja_nil)) (few_cons (few_cons few_nil))) (ja_cons (je_tup (ja_cons (je_op op_fdiv2 sem_div (je_var 0) je_int) (ja_cons (je_op op_add4 sem_add (je_op op_fdiv2 sem_div (je_var 0) je_int) je_int) ja_nil)) (few_cons (few_cons few_nil))) ja_nil)) (few_cons (few_cons few_nil)))⟩⟩))
      jss_nil)
      (jss_cons (js_if (jt_of (jw_and (jt_cmp op_gt sem_gt (je_var 11) je_int (nomark _)) (jw_and1 (jt_cmp op_gt sem_gt (je_var 3) je_int (nomark _)))))
      (jss_one (js_set (i := 6) sc_law_small.nd (je_thawM c_law_unlike hr (by omega) rfl (ja_cons (je_var 0) (ja_cons (je_var 1) (ja_cons (je_var 4) ja_nil))))))
      jss_nil)
      (jss_one (js_ret (je_var 6))))))))))))
set_option maxHeartbeats 4000000 in
theorem ok_law_marks {f : Addr} {fd : FuncData} (F : Fun K "_law_marks" "_law_marks" s_law_marks f fd) (B : Blt mg) (c_law_take : CalM P w K mg base "_law_take" 2 sem_law_take) : FnOk P w K mg base CX0 3 f fd ["pot", "many"] (spM K sem_law_marks 2) :=
  fnM F sc_law_marks fun cdv A outer s H E hr =>
    (jss_cons (js_set (i := 2) sc_law_marks.nd (je_ix ix_seq sem_ix (je_lstF (ja_cons je_int (ja_cons je_int (ja_cons (je_op op_fdiv2 sem_div (je_op op_pow sem_pow je_int je_int) (je_var 1)) ja_nil))) (few_cons (few_cons (few_cons few_nil)))) (je_callM c_law_take hr (by omega) rfl (ja_cons (je_var 0) (ja_cons je_int ja_nil))) (fun _ _ => rfl)))
      (jss_cons (js_set (i := 3) sc_law_marks.nd (je_ix ix_seq sem_ix (je_lstF (ja_cons je_int (ja_cons (je_op op_sub sem_sub je_int (je_callM c_law_take hr (by omega) rfl (ja_cons (je_var 0) (ja_cons je_int ja_nil)))) (ja_cons (je_op op_sub sem_sub je_int (je_op op_pow sem_pow je_int je_int)) ja_nil))) (few_cons (few_cons (few_cons few_nil)))) (je_callM c_law_take hr (by omega) rfl (ja_cons (je_var 0) (ja_cons je_int ja_nil))) (fun _ _ => rfl)))
      (jss_cons (js_set (i := 4) sc_law_marks.nd (je_lstS (ja_cons (je_var 3) ja_nil) (few_cons few_nil)))
      (jss_cons (js_for rfl (ji_range1 rfl (B.is "range") (ja_cons (je_var 1) ja_nil)) (jg_name (i := 5) sc_law_marks.nd)
      (jss_one (js_exp (je_meth PySem.F.plainAttrs_list PySem.F.slot_list_append PySem.F.type_list_append mt_append sm_append (je_var 4) (ja_cons (je_callB (call_min2 rfl) sem_min2 rfl (B.is "min") bt_min (ja_cons (je_op op_add4 sem_add (je_op op_add4 sem_add (je_ix ix_seq sem_ix (je_var 4) (je_un un_neg sem_neg je_int) (fun _ _ => rfl)) je_int) (je_callM c_law_take hr (by omega) rfl (ja_cons (je_var 0) (ja_cons (je_var 2) ja_nil)))) (ja_cons (je_op op_add4 sem_add (je_op op_sub sem_sub (je_op op_sub sem_sub (je_op op_pow sem_pow je_int je_int) je_int) (je_var 1)) (je_var 5)) ja_nil))) ja_nil)))) PassesOwn.never)
      (jss_cons (js_if (jt_cmp (op_eq2 hr) sem_eq (je_callM c_law_take hr (by omega) rfl (ja_cons (je_var 0) (ja_cons je_int ja_nil))) je_int (nomark _))
      (jss_one (js_setIx (je_op op_pow sem_pow je_int je_int) (je_var 4) (je_un un_neg sem_neg je_int)))
      jss_nil)
      (jss_cons (js_if (jt_cmp (op_eq2 hr) sem_eq (je_callM c_law_take hr (by omega) rfl (ja_cons (je_var 0) (ja_cons je_int ja_nil))) je_int (nomark _))
      (jss_one (js_setIx (je_op op_sub sem_sub je_int (je_op op_pow sem_pow je_int je_int)) (je_var 4) je_int))
      jss_nil)
      (jss_one (js_ret (je_var 4)))))))))
set_option maxHeartbeats 4000000 in
theorem ok_law_heap {f : Addr} {fd : FuncData} (F : Fun K "_law_heap" "_law_heap" s_law_heap f fd) (B : Blt mg) (Bz : mg "zip" = none) (c_law_take : CalM P w K mg base "_law_take" 2 sem_law_take) (c_law_small : CalM P w K mg base "_law_small" 5 sem_law_small) (c_law_marks : CalM P w K mg base "_law_marks" 3 sem_law_marks) : FnOk P w K mg base CX0 6 f fd ["pot", "ways", "most"] (spM K sem_law_heap 3) :=
  fnM F sc_law_heap fun cdv A outer s H E hr =>
    (jss_cons (js_set (i := 3) sc_law_heap.nd (je_ix ix_seq sem_ix (je_lstF (ja_cons je_int (ja_cons (je_ix ix_seq sem_ix (je_lstF (ja_cons je_int (ja_cons je_int (ja_cons je_int (ja_cons je_int ja_nil)))) (few_cons (few_cons (few_cons (few_cons few_nil))))) (je_var 1) (fun _ _ => rfl)) ja_nil)) (few_cons (few_cons few_nil))) (je_callTy call_int1 sem_int rfl (B.is "int") bt_int (ja_cons (je_cmp (op_eq2 hr) sem_eq (je_callM c_law_take hr (by omega) rfl (ja_cons (je_var 0) (ja_cons je_int ja_nil))) je_int (nomark _)) ja_nil)) (fun _ _ => rfl)))
      (jss_cons (js_set (i := 4) sc_law_heap.nd (je_callM c_law_small hr (by omega) rfl (ja_cons (je_var 0) (ja_cons (je_var 1) (ja_cons (je_var 2) (ja_cons (je_var 3) ja_nil))))))
      (jss_cons (js_setCompF (i := 5) rfl sc_law_heap.nd (CompOk.of (sc := defScope s_law_heap) (N := ["pot", "ways", "most", "many", "small", "marks", "boxes", "box"]) (N2 := ["way", "pot", "many"]) (k := 1) (caps := [0, 3]) (by decide +kernel)) rfl (ji_range1 rfl (B.is "range") (ja_cons (je_var 1) ja_nil)) ⟨fun _ _ _ _ _ => ⟨(jg_name (i := 0) (show List.Nodup (["way", "pot", "many"] : List Str) by decide +kernel)), jts_nil, (je_callM c_law_marks hr (by omega) rfl (ja_cons (je_var 1) (ja_cons (je_var 2) ja_nil)))⟩⟩)
      (jss_cons (js_set (i := 6) sc_law_heap.nd (je_lstS ja_nil few_nil))
      (jss_cons (js_for rfl (ji_seq (je_var 4)) (jg_name (i := 7) sc_law_heap.nd)
      (jss_one (js_exp (je_meth PySem.F.plainAttrs_list PySem.F.slot_list_append PySem.F.type_list_append mt_append sm_append (je_var 6) (ja_cons (je_callTy call_tuple_of sem_tuple rfl (B.is "tuple") bt_tuple (ja_cons (je_compF rfl (CompOk.of (sc := defScope s_law_heap) (N := ["pot", "ways", "most", "many", "small", "marks", "boxes", "box"]) (N2 := ["some", "low", "high"]) (k := 3) (caps := []) (by decide +kernel)) rfl (ji_zip rfl Bz (ja_cons (je_var 5) (ja_cons (je_var 7) ja_nil))) ⟨fun _ _ _ _ _ => ⟨(jg_tup rfl (jgs_cons (jg_name (i := 0) (show List.Nodup (["some", "low", "high"] : List Str) by decide +kernel)) (jgs_cons (jg_tup rfl (jgs_cons (jg_name (i := 1) (show List.Nodup (["some", "low", "high"] : List Str) by decide +kernel)) (jgs_cons (jg_name (i := 2) (show List.Nodup (["some", "low", "high"] : List Str) by decide +kernel)) jgs_nil))) jgs_nil))), jts_nil, (je_tup (ja_cons (je_ix ix_seq sem_ix (je_var 0) (je_var 1) (fun _ _ => rfl)) (ja_cons (je_ix ix_seq sem_ix (je_var 0) (je_var 2) (fun _ _ => rfl)) ja_nil)) (few_cons (few_cons few_nil)))⟩⟩) ja_nil)) ja_nil)))) PassesOwn.never)
      (jss_one (js_ret (je_tup (ja_cons (je_var 4) (ja_cons (je_var 5) (ja_cons (je_tup (ja_cons (je_var 1) (ja_cons (je_var 6) ja_nil)) (few_cons (few_cons few_nil))) ja_nil))) (few_cons (few_cons (few_cons few_nil)))))))))))
set_option maxHeartbeats 4000000 in
theorem ok_law_own {f : Addr} {fd : FuncData} (F : Fun K "_law_own" "_law_own" s_law_own f fd) (B : Blt mg) : FnOk P w K mg base CX0 1 f fd ["heap"] (spP K sem_law_own 1) :=
  fnP F sc_law_own fun cdv A outer s H E hr =>
    (jss_one (js_ret (je_tup (ja_cons (je_ix ix_seq sem_ix (je_var 0) je_int (fun _ _ => rfl)) (ja_cons (je_newF call_list_of sem_list rfl (B.is "list") bt_list (ja_cons (je_ix ix_seq sem_ix (je_var 0) je_int (fun _ _ => rfl)) ja_nil)) ja_nil)) (few_cons (few_cons few_nil)))))
set_option maxHeartbeats 4000000 in
theorem ok_law_due {f : Addr} {fd : FuncData} (F : Fun K "_law_due" "_law_due" s_law_due f fd) (B : Blt mg) : FnOk P w K mg base CX0 1 f fd ["heap", "way", "number"] (spP K sem_law_due 3) :=
  fnP F sc_law_due fun cdv A outer s H E hr =>
    (jss_cons (js_set (i := 3) sc_law_due.nd (je_lstS ja_nil few_nil))
      (jss_cons (js_for rfl (ji_seq (je_ix ix_seq sem_ix (je_var 0) je_int (fun _ _ => rfl))) (jg_name (i := 4) sc_law_due.nd)
      (jss_cons (js_asg (je_ix ix_seq sem_ix (je_var 4) (je_var 1) (fun _ _ => rfl)) (jg_tup rfl (jgs_cons (jg_name (i := 5) sc_law_due.nd) (jgs_cons (jg_name (i := 6) sc_law_due.nd) jgs_nil))))
      (jss_one (js_if (jt_of (jw_and (jt_cmp op_le sem_le (je_var 5) (je_var 2) (nomark _)) (jw_and1 (jt_cmp op_lt sem_lt (je_var 2) (je_var 6) (nomark _)))))
      (jss_one (js_exp (je_meth PySem.F.plainAttrs_list PySem.F.slot_list_append PySem.F.type_list_append mt_append sm_append (je_var 3) (ja_cons (je_callTy call_tuple_of sem_tuple rfl (B.is "tuple") bt_tuple (ja_cons (je_compF rfl (CompOk.of (sc := defScope s_law_due) (N := ["heap", "way", "number", "found", "box", "low", "high"]) (N2 := ["k", "box", "way"]) (k := 1) (caps := [4, 1]) (by decide +kernel)) rfl (ji_range1 rfl (B.is "range") (ja_cons (je_ix ix_seq sem_ix (je_var 0) je_int (fun _ _ => rfl)) ja_nil)) ⟨fun _ _ _ _ _ => ⟨(jg_name (i := 0) (show List.Nodup (["k", "box", "way"] : List Str) by decide +kernel)), (jts_one (jt_cmp (op_ne2 hr) sem_ne (je_var 0) (je_var 2) (nomark _))), (je_ix ix_seq sem_ix (je_var 1) (je_var 0) (fun _ _ => rfl))⟩⟩) ja_nil)) ja_nil))))
      jss_nil))) PassesOwn.never)
      (jss_one (js_ret (je_tup (ja_cons (je_op op_sub sem_sub (je_ix ix_seq sem_ix (je_var 0) je_int (fun _ _ => rfl)) je_int) (ja_cons (je_var 3) ja_nil)) (few_cons (few_cons few_nil)))))))
set_option maxHeartbeats 4000000 in
theorem ok_law_ends {f : Addr} {fd : FuncData} (F : Fun K "_law_ends" "_law_ends" s_law_ends f fd) (B : Blt mg) : FnOk P w K mg base CX0 1 f fd ["heap", "way"] (spP K sem_law_ends 2) :=
  fnP F sc_law_ends fun cdv A outer s H E hr =>
    (jss_cons (js_set (i := 2) sc_law_ends.nd (je_lstS ja_nil few_nil))
      (jss_cons (js_for rfl (ji_seq (je_ix ix_seq sem_ix (je_var 0) je_int (fun _ _ => rfl))) (jg_name (i := 3) sc_law_ends.nd)
      (jss_one (js_exp (je_meth PySem.F.plainAttrs_list PySem.F.slot_list_extend PySem.F.type_list_extend mt_extend sm_extend (je_var 2) (ja_cons (je_newF call_list_of sem_list rfl (B.is "list") bt_list (ja_cons (je_ix ix_seq sem_ix (je_var 3) (je_var 1) (fun _ _ => rfl)) ja_nil)) ja_nil)))) PassesOwn.never)
      (jss_one (js_ret (je_var 2)))))
set_option maxHeartbeats 4000000 in
theorem ok_law_right {f : Addr} {fd : FuncData} (F : Fun K "_law_right" "_law_right" s_law_right f fd) (B : Blt mg) (c_law_due : CalP P w K mg base "_law_due" 1 sem_law_due) (c_cut_at : CalP P w K mg base "cut_at" 6 sem_cut_at) : FnOk P w K mg base CX0 7 f fd ["handed", "heap", "way", "number"] (spP K sem_law_right 4) :=
  fnP F sc_law_right fun cdv A outer s H E hr =>
    (jss_cons (js_set (i := 4) sc_law_right.nd (je_callP c_law_due hr (by omega) rfl (ja_cons (je_var 1) (ja_cons (je_var 2) (ja_cons (je_var 3) ja_nil)))))
      (jss_cons (js_for rfl (ji_range1 rfl (B.is "range") (ja_cons je_int ja_nil)) (jg_name (i := 5) sc_law_right.nd)
      (jss_cons (js_set (i := 6) sc_law_right.nd (je_thawP c_cut_at hr (by omega) rfl (ja_cons (je_var 0) (ja_cons (je_var 2) (ja_cons (je_var 3) ja_nil)))))
      (jss_cons (js_if (jt_of (jw_or (jt_cmp (op_ne2 hr) sem_neS (je_callB (call_reprD hr) sem_repr rfl (B.is "repr") bt_repr (ja_cons (je_var 6) ja_nil)) (je_callB (call_reprD hr) sem_repr rfl (B.is "repr") bt_repr (ja_cons (je_var 4) ja_nil)) (nomark _)) (jw_or1 (jt_cmp (op_ne2 hr) sem_ne (je_var 0) (je_var 1) (nomark _)))))
      (jss_one (js_ret je_bl))
      jss_nil)
      (jss_one (js_exp (je_meth PySem.F.plainAttrs_list PySem.F.slot_list_append PySem.F.type_list_append mt_append sm_append (je_ix ix_seq sem_ix (je_var 6) je_int (fun _ _ => rfl)) (ja_cons je_non ja_nil)))))) PassesOwn.never)
      (jss_one (js_ret je_bl))))
set_option maxHeartbeats 4000000 in
theorem ok_law {f : Addr} {fd : FuncData} (F : Fun K "law" "law" s_law f fd) (B : Blt mg) (c_law_pot : CalP P w K mg base "_law_pot" 1 sem_law_pot) (c_law_take : CalM P w K mg base "_law_take" 2 sem_law_take) (c_law_heap : CalM P w K mg base "_law_heap" 6 sem_law_heap) (c_law_own : CalP P w K mg base "_law_own" 1 sem_law_own) (c_law_ends : CalP P w K mg base "_law_ends" 1 sem_law_ends) (c_law_right : CalP P w K mg base "_law_right" 7 sem_law_right) (c_cut_at : CalP P w K mg base "cut_at" 6 sem_cut_at) : FnOk P w K mg base CX0 8 f fd ["script"] (spP K sem_law 1) :=
  fnP F sc_law fun cdv A outer s H E hr =>
    (jss_cons (js_for rfl (ji_seq (je_op op_add4 sem_add (je_slice sl_two sem_sl (je_var 0) jo_none (jo_some je_int)) (je_lstF (ja_cons (je_callB call_len_seq sem_len rfl (B.is "len") bt_len (ja_cons (je_var 0) ja_nil)) ja_nil) (few_cons few_nil)))) (jg_name (i := 1) sc_law.nd)
      (jss_cons (js_set (i := 2) sc_law.nd (je_thawP c_law_pot hr (by omega) rfl (ja_cons (je_var 1) ja_nil)))
      (jss_cons (js_set (i := 3) sc_law.nd (je_op op_add4 sem_add je_int (je_callM c_law_take hr (by omega) rfl (ja_cons (je_var 2) (ja_cons je_int ja_nil)))))
      (jss_cons (js_asg (je_callM c_law_heap hr (by omega) rfl (ja_cons (je_var 2) (ja_cons (je_var 3) (ja_cons (je_ix ix_seq sem_ix (je_lstF (ja_cons je_int (ja_cons je_int ja_nil)) (few_cons (few_cons few_nil))) (je_op op_sub sem_sub (je_var 3) je_int) (fun _ _ => rfl)) ja_nil)))) (jg_tup rfl (jgs_cons (jg_name (i := 4) sc_law.nd) (jgs_cons (jg_name (i := 5) sc_law.nd) (jgs_cons (jg_name (i := 6) sc_law.nd) jgs_nil)))))
      (jss_cons (js_set (i := 7) sc_law.nd (je_callP c_law_own hr (by omega) rfl (ja_cons (je_var 6) ja_nil)))
      (jss_one (js_for rfl (ji_range1 rfl (B.is "range") (ja_cons (je_var 3) ja_nil)) (jg_name (i := 8) sc_law.nd)
      (jss_cons (js_set (i := 9) sc_law.nd (je_callP c_law_ends hr (by omega) rfl (ja_cons (je_var 6) (ja_cons (je_var 8) ja_nil))))
      (jss_cons (js_set (i := 9) sc_law.nd (je_op op_add4 sem_add (je_var 9) (je_lstF (ja_cons (je_ix ix_seq sem_ix (je_ix ix_seq sem_ix (je_var 5) (je_var 8) (fun _ _ => rfl)) (je_callM c_law_take hr (by omega) rfl (ja_cons (je_var 2) (ja_cons (je_callB call_len_seq sem_len rfl (B.is "len") bt_len (ja_cons (je_ix ix_seq sem_ix (je_var 5) (je_var 8) (fun _ _ => rfl)) ja_nil)) ja_nil))) (fun _ _ => rfl)) (ja_cons (je_op op_pow sem_pow je_int je_int) (ja_cons (je_op op_sub sem_sub je_int (je_op op_pow sem_pow je_int je_int)) (ja_cons (je_callM c_law_take hr (by omega) rfl (ja_cons (je_var 2) (ja_cons je_int ja_nil))) ja_nil)))) (few_cons (few_cons (few_cons (few_cons few_nil)))))))
      (jss_one (js_for rfl (ji_seq (je_var 9)) (jg_name (i := 10) sc_law.nd)
      (jss_one (js_if (jt_of (jw_or (jt_not (jt_val (je_callP c_law_right hr (by omega) rfl (ja_cons (je_var 7) (ja_cons (je_var 6) (ja_cons (je_var 8) (ja_cons (je_var 10) ja_nil))))))) (jw_or1 (jt_not (jt_val (je_callP c_law_right hr (by omega) rfl (ja_cons (je_var 7) (ja_cons (je_var 6) (ja_cons (je_var 8) (ja_cons (je_op op_sub sem_sub (je_var 10) je_int) ja_nil))))))))))
      (jss_one (js_ret je_bl))
      jss_nil)) PassesOwn.never)))) PassesOwn.never)))))) PassesOwn.never)
      (jss_one (js_ret (je_and (je_cmp (op_eq2 hr) sem_eq (je_callP c_cut_at hr (by omega) rfl (ja_cons (je_tup (ja_cons je_int (ja_cons (je_lstF (ja_cons (je_tup (ja_cons (je_tup (ja_cons je_int (ja_cons je_int ja_nil)) (few_cons (few_cons few_nil))) (ja_cons (je_tup (ja_cons je_int (ja_cons je_int ja_nil)) (few_cons (few_cons few_nil))) ja_nil)) (few_cons (few_cons few_nil))) ja_nil) (few_cons few_nil)) ja_nil)) (few_cons (few_cons few_nil))) (ja_cons je_int (ja_cons je_int ja_nil)))) (je_tup (ja_cons je_int (ja_cons (je_lstF (ja_cons (je_tup (ja_cons (je_tup (ja_cons je_int (ja_cons je_int ja_nil)) (few_cons (few_cons few_nil))) ja_nil) (few_cons few_nil)) ja_nil) (few_cons few_nil)) ja_nil)) (few_cons (few_cons few_nil))) (nomark _)) (je_one (je_cmp (op_eq2 hr) sem_eq (je_callP c_cut_at hr (by omega) rfl (ja_cons (je_tup (ja_cons je_int (ja_cons (je_lstF ja_nil few_nil) ja_nil)) (few_cons (few_cons few_nil))) (ja_cons je_int (ja_cons je_int ja_nil)))) (je_tup (ja_cons je_int (ja_cons (je_lstF ja_nil few_nil) ja_nil)) (few_cons (few_cons few_nil))) (nomark _)))))))
end
end W12
end
section
set_option Elab.async false
set_option maxRecDepth 10000
set_option linter.all false
set_option maxHeartbeats 4000000
namespace W12
open PySem L2 VS
theorem is_whole_int (i : Int) : sem_is_whole [.int i] = some (.bl true) := by
  simp [sem_is_whole, f_is_whole, sRet_eq, eVar_eq, eC_eq, aNil_eq, aCons_eq, eCB_eq, eAnd_eq, eNot_eq, runP_eq, den, -List.map_map, -Option.map_bind]
theorem are_ways_ok {n : Int} (h : n = 1 ∨ n = 2 ∨ n = 3) : sem_are_ways [.int n] = some (.bl true) := by
  have e : (Spec.lookup (.int n) Bc.D3).isSome = true := by rw [Bc.in_D3]; exact decide_eq_true h
  simp [sem_are_ways, f_are_ways, sRet_eq, eVar_eq, eUn_eq, aNil_eq, aCons_eq, eAnd_eq, eCallP_eq, runP_eq, den, denL, age, ageL, pureD, pureL, -List.map_map, -Option.map_bind, is_whole_int, oTab, e]
theorem is_stretch_ok (p : St2) : sem_is_stretch [encS p] = some (.bl (decide (p.1 < p.2))) := by
  have h : seeP [] (encS p) = some (pS p) := seeP_encS [] p
  simp only [encS] at h ⊢
  simp [sem_is_stretch, f_is_stretch, sSeq_eq, sRet_eq, sIf_eq, sNil_eq, eVar_eq, eC_eq, eOp_eq, aNil_eq, aCons_eq, eCB_eq, eAnd_eq, tVal_eq, tOr_eq, tNot_eq, eCallP_eq, oI, yes2, oLt, oEq, oIx, bLen, VS.listOf, seqOf, runP_eq, den, denL, age, ageL, pureD, pureL, -List.map_map, -Option.map_bind, is_whole_int, h, pS]
theorem is_box_c (n : Nat) (b : List St2) (hb : ∀ p ∈ b, p.1 < p.2) (hl : b.length ≤ 1000) : is_box_c1 [some (.int n), some (encB b)] [] = some (b.map (fun _ => D.bl true), []) := by
  unfold is_box_c1 aComp
  have e : iSeq (eVar 1) [some (.int n), some (encB b)] [] = some ((b.map encS, []), []) := by simp [eVar_eq, VS.listOf, seqOf, VS.idOf, iSeq_eq, -List.map_map, -Option.map_bind, encB]
  rw [e]
  simp only [Option.bind_some]
  rw [comp_all (by simp) (fun _ => .bl true) _ (by simp; omega)]
  · simp [Function.comp_def]
  · intro d hd
    obtain ⟨p, hp, rfl⟩ := List.mem_map.mp hd
    refine ⟨_, rfl, ?_⟩
    have h1 := is_stretch_ok p
    rw [decide_eq_true (hb p hp)] at h1
    simp [eVar_eq, aNil_eq, aCons_eq, capE, eCallP_eq, denL, ageL, pureL, List.replicate_succ, -List.map_map, -Option.map_bind, h1]
theorem bools_true {α : Type} (l : List α) : bAll.boolsOf (l.map fun _ => D.bl true) = some (l.map fun _ => true) := by
  have := boolsOf_map (l.map fun _ => true)
  rw [List.map_map] at this
  exact this
theorem is_box_ok {n : Nat} {b : List St2} (hn : n = 1 ∨ n = 2 ∨ n = 3) (hb : ∀ p ∈ b, p.1 < p.2) (hl : b.length = n) : sem_is_box [.int n, encB b] = some (.bl true) := by
  have hw : sem_are_ways [.int n] = some (.bl true) := are_ways_ok (by omega)
  have hc := is_box_c n b hb (by omega)
  have h : seeP [] (encB b) = some (pB b) := seeP_encB [] b
  have hlen : bLen [] [encB b] = some (.int n) := by simp [bLen, encB, seqOf, hl]
  simp [sem_is_box, f_is_box, sSeq, sIf, sRet, sNil, VS.tOr, VS.tNot, tVal, eCallP, eCB, aCons, aNil, eVar, eC, eOp, eFrz, runP, den, denL, age, ageL, pureD, pureL, hw, h, pB, hlen, oEq, hc, bAll, VS.listOf, bools_true]
theorem most_at {n : Nat} (h : n = 1 ∨ n = 2 ∨ n = 3) : oTabAt Bc.D3 [] (.int n) = some (.int ([0, 20, 10, 6].getD n 0 : Nat)) := by
  rcases h with h | h | h <;> subst h <;> rfl
theorem is_heap_c {n : Nat} {m : Bool} {bs : List (List St2)} (g : Good n bs) : is_heap_c1 [some (encH m n bs), some (.int n), some (.lst m (bs.map encB))] [] = some (bs.map (fun _ => D.bl true), []) := by
  have few := g.few
  unfold is_heap_c1 aComp
  have e : iSeq (eVar 2) [some (encH m n bs), some (.int n), some (.lst m (bs.map encB))] [] = some ((bs.map encB, []), []) := by simp [eVar_eq, VS.listOf, seqOf, VS.idOf, iSeq_eq, -List.map_map, -Option.map_bind]
  rw [e]
  simp only [Option.bind_some]
  rw [comp_all (by simp) (fun _ => .bl true) _ (by simp; omega)]
  · simp [Function.comp_def]
  · intro d hd
    obtain ⟨b, hb, rfl⟩ := List.mem_map.mp hd
    refine ⟨_, rfl, ?_⟩
    have h1 := is_box_ok g.ways (fun p hp => ((g.box b hb).2 p hp).1) (g.box b hb).1
    simp [eVar_eq, aNil_eq, aCons_eq, capE, eCallP_eq, den, denL, age, ageL, pureD, pureL, List.replicate_succ, -List.map_map, -Option.map_bind, h1]
theorem is_heap_ok {n : Nat} {m : Bool} {bs : List (List St2)} (g : Good n bs) : sem_is_heap [encH m n bs] = some (.bl true) := by
  have hw : sem_are_ways [.int n] = some (.bl true) := are_ways_ok (by have := g.ways; omega)
  have hc := is_heap_c (m := m) g
  have h := seeP_encH [] m n bs
  have h2 := seeP_boxes [] m bs
  have hm := most_at g.ways
  have hle : ¬ (([0, 20, 10, 6].getD n 0 : Nat) : Int) < (bs.length : Int) := by have := g.most; omega
  unfold encH at h hc ⊢
  simp only [List.getD_eq_getElem?_getD] at hm hle
  simp [sem_is_heap, f_is_heap, sSeq, sIf, sRet, sNil, sSet, VS.tOr, VS.tNot, tVal, eCallP, eCB, aCons, aNil, eVar, eC, eOp, eUn, eFrz, runP, den, denL, age, ageL, pureD, pureL, hw, h, h2, hc, oEq, oIx, oGt, oI, yes2, bLen, VS.seqOf, VS.listOf, bAll, bools_true, hm, hle]
theorem need_heap_ok {n : Nat} {m : Bool} {bs : List (List St2)} (g : Good n bs) : sem_need_heap [encH m n bs] = some .non := by
  have h := is_heap_ok (m := false) g
  simp [sem_need_heap, f_need_heap, sIf_eq, sNil_eq, sNever_eq, eVar_eq, aNil_eq, aCons_eq, tVal_eq, tNot_eq, eCallP_eq, runP_eq, denL, ageL, pureL, -List.map_map, -Option.map_bind, h]
end W12
end
section
set_option Elab.async false
set_option maxRecDepth 10000
set_option linter.all false
set_option maxHeartbeats 4000000
namespace W12
open PySem L2 VS
theorem mixed_ok (c k : Int) : ∃ v, sem_law_mixed [.int c, .int k] = some (.int v) := by
  have hc : ∀ t : Int, -18446744073709551616 < t % 2147483647 ∧ t % 2147483647 < 18446744073709551616 := fun t => by omega
  simp [sem_law_mixed, f_law_mixed, sSeq_eq, sSet_eq, sRet_eq, eVar_eq, eC_eq, eOp_eq, oI, cMul, cDiv, cMod, oAdd, oMul, oDiv, oMod, VS.listOf, runP_eq, den, List.replicate_succ, -List.map_map, -Option.map_bind, hc]
theorem take_ok (x y z m : Int) (h0 : 0 < m) (h1 : m < 2 ^ 63) : ∃ r x' z', sem_law_take [x, y, z] [.int m] = some (.int r, [x', y, z']) ∧ 0 ≤ r ∧ r < m := by
  have hm : m < 18446744073709551616 := by omega
  by_cases h : 0 < x
  · simp [sem_law_take, f_law_take, sSeq_eq, sSet_eq, sRet_eq, sIf_eq, sNil_eq, sSetIx_eq, eVar_eq, eC_eq, eOp_eq, aNil_eq, aCons_eq, tVal_eq, eCallP_eq, oI, yes2, cDiv, cMod, oAdd, oDiv, oMod, oGt, oIx, VS.listOf, seqOf, runM_eq, intsOf, den, List.replicate_succ, -List.map_map, -Option.map_bind, h, h0, hm]
    exact ⟨Int.emod_nonneg _ (by omega), Int.emod_lt_of_pos _ h0⟩
  · obtain ⟨v, hv⟩ := mixed_ok y (z + 1)
    simp [sem_law_take, f_law_take, sSeq_eq, sSet_eq, sRet_eq, sIf_eq, sNil_eq, sSetIx_eq, eVar_eq, eC_eq, eOp_eq, aNil_eq, aCons_eq, tVal_eq, eCallP_eq, oI, yes2, cDiv, cMod, oAdd, oDiv, oMod, oGt, oIx, VS.listOf, seqOf, runM_eq, intsOf, den, denL, age, ageL, pureD, pureL, List.replicate_succ, -List.map_map, -Option.map_bind, h, h0, hm, hv]
    exact ⟨Int.emod_nonneg _ (by omega), Int.emod_lt_of_pos _ h0⟩
theorem big_lt {k : Nat} (hk : k ≤ 300) : ((10 : Int) ^ k).natAbs < 2 ^ 1024 := by
  rw [Int.natAbs_pow]
  refine Nat.lt_of_le_of_lt (Nat.pow_le_pow_right (by decide) hk) ?_
  decide +kernel
theorem pow10 (k : Nat) (hk : k ≤ 1000) (env : VS.Env) (S : Store) : eOp oPow (eC (.int 10)) (eC (.int k)) env S = some (.int (10 ^ k), S) := by
  have h : cPow 10 (k : Int) = true := by
    unfold cPow
    simp
    omega
  rw [eOp_eq, eC_eq, Option.bind_some, eC_eq, Option.bind_some]
  show (if cPow 10 (k : Int) = true then some (D.int (10 ^ (k : Int).toNat)) else none).map _ = _
  rw [if_pos h, Int.toNat_natCast]; rfl
theorem mulB_of {a b : ESem} {env : VS.Env} {S S1 S2 : Store} {i j : Int} (ha : a env S = some (.int i, S1)) (hb : b env S1 = some (.int j, S2)) (hi : i.natAbs < 2 ^ 1024) (hj : j.natAbs < 2 ^ 1024) : eOp oMulB a b env S = some (.int (i * j), S2) := by
  have h : cBig i j = true := by
    unfold cBig
    rw [Bool.and_eq_true]
    exact ⟨decide_eq_true hi, decide_eq_true hj⟩
  rw [eOp_eq, ha, Option.bind_some, hb, Option.bind_some]
  show (if cBig i j = true then some (D.int (i * j)) else none).map _ = _
  rw [if_pos h]; rfl
theorem pot_ok (c : Int) : ∃ x, sem_law_pot [.int c] = some (.lst true [.int x, .int c, .int 0]) := by
  have p := pow10 50 (by decide) [some (.int c)] []
  have q1 := mulB_of p p (big_lt (by decide)) (big_lt (by decide))
  rw [← Int.pow_add] at q1
  have q2 := mulB_of q1 p (big_lt (by decide)) (big_lt (by decide))
  rw [← Int.pow_add] at q2
  have q3 := mulB_of q2 p (big_lt (by decide)) (big_lt (by decide))
  rw [← Int.pow_add] at q3
  have hp : (0 : Int) < 10 ^ (50 + 50 + 50 + 50) := Int.pow_pos (by decide)
  have m1 : eOp oMod (eVar 0) (eOp oMulB (eOp oMulB (eOp oMulB (eOp oPow (eC (.int 10)) (eC (.int 50))) (eOp oPow (eC (.int 10)) (eC (.int 50)))) (eOp oPow (eC (.int 10)) (eC (.int 50)))) (eOp oPow (eC (.int 10)) (eC (.int 50)))) [some (.int c)] [] = some (.int (c % 10 ^ (50 + 50 + 50 + 50)), []) := by
    have v : eVar 0 [some (.int c)] [] = some (.int c, []) := rfl
    have h : cMod c (10 ^ (50 + 50 + 50 + 50)) = true := decide_eq_true hp
    rw [eOp_eq, v, Option.bind_some]
    refine (congrArg (fun z => Option.bind z _) q3).trans ?_
    rw [Option.bind_some]
    show (if cMod c (10 ^ (50 + 50 + 50 + 50)) = true then some (D.int (c % 10 ^ (50 + 50 + 50 + 50))) else none).map _ = _
    rw [if_pos h]; rfl
  have hb : (c % 10 ^ (50 + 50 + 50 + 50)).natAbs < 2 ^ 1024 :=
    Nat.lt_trans (Int.natAbs_lt_natAbs_of_nonneg_of_lt (Int.emod_nonneg _ (Int.ne_of_gt hp)) (Int.emod_lt_of_pos _ hp)) (big_lt (by decide))
  obtain ⟨b, hb1, hb2⟩ : ∃ b : Int, eCB bInt (aCons (eOp oGe (eVar 0) (eOp oPow (eC (.int 10)) (eC (.int 18)))) aNil) [some (.int c)] [] = some (.int b, []) ∧ b.natAbs < 2 ^ 1024 := by
    by_cases h : (1000000000000000000 : Int) ≤ c
    · exact ⟨1, by simp [eVar_eq, eC_eq, eOp_eq, aNil_eq, aCons_eq, eCB_eq, oI, yes2, cPow, oPow, oGe, bInt, -List.map_map, -Option.map_bind, h], by decide +kernel⟩
    · exact ⟨0, by simp [eVar_eq, eC_eq, eOp_eq, aNil_eq, aCons_eq, eCB_eq, oI, yes2, cPow, oPow, oGe, bInt, -List.map_map, -Option.map_bind, h], by decide +kernel⟩
  have q4 := mulB_of m1 hb1 hb hb2
  refine ⟨c % 10 ^ (50 + 50 + 50 + 50) * b, ?_⟩
  have v : ∀ S, eVar 0 [some (.int c)] S = some (.int c, S) := fun _ => rfl
  unfold sem_law_pot
  rw [runP_eq]
  simp only [List.length_cons, List.length_nil, List.map_cons, List.map_nil, Nat.reduceAdd, Nat.reduceSub, List.replicate_zero, List.append_nil, if_true]
  unfold f_law_pot
  rw [sRet_eq, eFrz_eq, aCons_eq, q4]
  generalize c % 10 ^ (50 + 50 + 50 + 50) * b = x
  simp [eVar_eq, eC_eq, aNil_eq, aCons_eq, den, denL, -List.map_map, -Option.map_bind]
end W12
end
section
set_option Elab.async false
set_option maxRecDepth 10000
set_option linter.all false
set_option maxHeartbeats 4000000
namespace W12
open PySem L2 VS
theorem callP_of {sem : PSem} {a : ASem} {env : VS.Env} {S S' : Store} {ds es : List D} {r : D} (h : a env S = some (ds, S')) (hp : pureL ds = true) (ha : ageL ds = es) (hr : sem es = some r) : eCallP sem a env S = some (r, S') := by
  rw [eCallP_eq, h]
  simp only [Option.bind_some, pure_denL 0 S' hp, ha, hr, hp, Bool.true_or, if_true]
end W12
end
section
set_option Elab.async false
set_option maxRecDepth 10000
set_option linter.all false
set_option maxHeartbeats 4000000
namespace W12
open PySem L2 VS
theorem thawP_of {sem : PSem} {a : ASem} {env : VS.Env} {S S' : Store} {d d' : D} {cs : List D} (h : eCallP sem a env S = some (d, S')) (ht : thaw S'.length d = some (d', cs)) : eThawP sem a env S = some (d', S' ++ [some cs]) := by
  rw [eThawP_eq, h, Option.bind_some]
  show (thaw S'.length d).bind _ = _
  rw [ht]; rfl
theorem callM_of {sem : MSem} {a : ASem} {env : VS.Env} {S S' : Store} {i : Nat} {rest es : List D} {ns ms : List Int} {r : D} (h : a env S = some (.ref i :: rest, S')) (hi : S'[i]? = some (some (ns.map D.int))) (hp : pureL rest = true) (ha : ageL rest = es) (hr : sem ns es = some (r, ms)) : eCallM sem a env S = some (r, S'.set i (some (ms.map D.int))) := by
  rw [eCallM_eq, h]
  simp only [Option.bind_some, hi, intsOf_map, pure_denL 0 _ hp, ha, hr, hp, Bool.true_or, if_true]
theorem thawM_of {sem : MSem} {a : ASem} {env : VS.Env} {S S' : Store} {d d' : D} {cs : List D} (h : eCallM sem a env S = some (d, S')) (ht : thaw S'.length d = some (d', cs)) : eThawM sem a env S = some (d', S' ++ [some cs]) := by
  rw [eThawM_eq, h, Option.bind_some]
  show (thaw S'.length d).bind _ = _
  rw [ht]; rfl
theorem meth_of {g : Store → D → List D → Option (D × Store)} {o : ESem} {a : ASem} {env : VS.Env} {S S1 S2 S3 : Store} {d r : D} {cs ds : List D} (h : o env S = some (d, S1)) (hl : VS.listOf S1 d = some cs) (h2 : a env S1 = some (ds, S2)) (h3 : g S2 d ds = some (r, S3)) : eMeth g o a env S = some (r, S3) := by
  rw [eMeth_eq, h, Option.bind_some]
  show (if (VS.listOf S1 d).isSome = true then _ else _) = _
  rw [hl]
  show (a env S1).bind _ = _
  rw [h2]
  exact h3
theorem end0 (S : Store) (a : Option (List D)) (l : List (Option (List D))) : (S ++ a :: l)[S.length]? = some a := by simp
theorem set0 (S : Store) (a c : Option (List D)) (l : List (Option (List D))) : (S ++ a :: l).set S.length c = S ++ c :: l := by
  rw [List.set_append_right _ _ (by omega)]
  simp
end W12
end
section
set_option Elab.async false
set_option maxRecDepth 10000
set_option linter.all false
set_option maxHeartbeats 4000000
namespace W12
open PySem L2 VS
theorem popAt_of {S : Store} {i : Nat} {l : List D} {r : Int} (h : S[i]? = some (some l)) (h0 : 0 ≤ r) (h1 : r < l.length) (h2 : r < 2 ^ 63) (hn : r.toNat < l.length) : mPopAt S (.ref i) [.int r] = some (l[r.toNat], S.set i (some (l.eraseIdx r.toNat))) := by
  have hix : seqIndex? r l.length = some r.toNat := PySem.StrLaws.seqIndex_nonneg h0 h1
  rw [mPopAt, h]
  show (if -(2 ^ 63) ≤ r ∧ r < 2 ^ 63 then (seqIndex? r l.length).bind _ else _) = _
  rw [if_pos ⟨by omega, h2⟩, hix, Option.bind_some, List.getElem?_eq_getElem hn]
  rfl
theorem pull_perm {α : Type} : ∀ (l : List α) (i : Nat) (h : i < l.length), (l[i] :: l.eraseIdx i).Perm l
  | a :: r, 0, _ => by simp
  | a :: r, i + 1, h => by
    have h' : i < r.length := by simpa using h
    show (r[i] :: a :: r.eraseIdx i).Perm (a :: r)
    exact (List.Perm.swap ..).trans ((pull_perm r i h').cons a)
def toI : D → Option Int
  | .int i => some i
  | _ => none
theorem toI_map : ∀ {es : List D}, (∀ e ∈ es, ∃ n, e = .int n) → (es.filterMap toI).map .int = es
  | [], _ => rfl
  | e :: r, h => by
    obtain ⟨n, rfl⟩ := h e List.mem_cons_self
    rw [List.filterMap_cons_some (show toI (.int n) = some n from rfl), List.map_cons, toI_map fun e he => h e (List.mem_cons_of_mem _ he)]
theorem ints_perm {es : List D} {ns : List Int} (hp : es.Perm (ns.map .int)) : ∃ ms : List Int, es = ms.map .int ∧ ms.Perm ns := by
  refine ⟨es.filterMap toI, (toI_map fun e he => ?_).symm, ?_⟩
  · obtain ⟨n, _, q⟩ := List.mem_map.mp (hp.mem_iff.mp he)
    exact ⟨n, q.symm⟩
  · have := hp.filterMap toI
    rw [List.filterMap_map] at this
    have e : (fun n : Int => toI (.int n)) = some := rfl
    rw [show (toI ∘ D.int) = some from rfl, List.filterMap_some] at this
    exact this
theorem mix_c (x y z : Int) (ds : List D) (hl : ds.length ≤ 1000) : ∃ (es : List D) (x' z' : Int), law_mixed_up_c1 [some (.ref 0), some (.lst false ds), some (.ref 1)] [some [.int x, .int y, .int z], some ds] = some (es, [some [.int x', .int y, .int z'], some []]) ∧ es.Perm ds := by
  have e : iSeq (eVar 1) [some (.ref 0), some (.lst false ds), some (.ref 1)] [some [.int x, .int y, .int z], some ds] = some ((ds, []), [some [.int x, .int y, .int z], some ds]) := by simp [eVar_eq, VS.listOf, seqOf, VS.idOf, iSeq_eq, -List.map_map, -Option.map_bind]
  unfold law_mixed_up_c1 aComp
  rw [e]
  simp only [Option.bind_some]
  obtain ⟨ys, S', e2, left, x', z', hS, hi, hp⟩ := comp_inv (w := []) (e0 := capE 1 [2, 0] [some (.ref 0), some (.lst false ds), some (.ref 1)]) (g := Pat.sem (.nm 0)) (ds := ds) (S := [some [.int x, .int y, .int z], some ds])
    (f := eMeth mPopAt (eVar 1) (aCons (eCallM sem_law_take (aCons (eVar 2) (aCons (eCB bLen (aCons (eVar 1) aNil)) aNil))) aNil))
    (fun i ys S => ∃ (left : List D) (x' z' : Int), S = [some [.int x', .int y, .int z'], some left] ∧ ys.length = min i ds.length ∧ (ys ++ left).Perm ds)
    ⟨ds, x, z, rfl, by simp, .refl _⟩ (fun i ys S q => by obtain ⟨left, x', z', h1, h2, h3⟩ := q; exact ⟨by simp, by omega⟩)
    (fun i d ys S hd q => by
      obtain ⟨left, x', z', h1, h2, h3⟩ := q
      subst h1
      have hi : i < ds.length := (List.getElem?_eq_some_iff.mp hd).1
      have hlen := h3.length_eq
      rw [List.length_append] at hlen
      obtain ⟨r, x2, z2, e3, r0, r1⟩ := take_ok x' y z' left.length (by omega) (by omega)
      have hrn : r.toNat < left.length := by omega
      have v1 : ∀ a : List D, eVar 1 [some d, some (.ref 1), some (.ref 0)] [some a, some left] = some (.ref 1, [some a, some left]) := fun a => rfl
      have v2 : ∀ a : List D, eVar 2 [some d, some (.ref 1), some (.ref 0)] [some a, some left] = some (.ref 0, [some a, some left]) := fun a => rfl
      have hL : eCB bLen (aCons (eVar 1) aNil) [some d, some (.ref 1), some (.ref 0)] [some [.int x', .int y, .int z'], some left] = some (.int left.length, [some [.int x', .int y, .int z'], some left]) := by
        rw [eCB_eq, aCons_eq, v1]
        simp [aNil_eq, bLen, seqOf, VS.listOf]
      have ht : eCallM sem_law_take (aCons (eVar 2) (aCons (eCB bLen (aCons (eVar 1) aNil)) aNil)) [some d, some (.ref 1), some (.ref 0)] [some [.int x', .int y, .int z'], some left] = some (.int r, [some [.int x2, .int y, .int z2], some left]) :=
        callM_of (ns := [x', y, z']) (rest := [.int left.length]) (es := [.int left.length]) (i := 0) (S' := [some [.int x', .int y, .int z'], some left]) (by rw [aCons_eq, v2]; simp [aCons_eq, aNil_eq, hL]) rfl (by simp [pureL, pureD]) (by simp [ageL, age]) e3
      have hpop : eMeth mPopAt (eVar 1) (aCons (eCallM sem_law_take (aCons (eVar 2) (aCons (eCB bLen (aCons (eVar 1) aNil)) aNil))) aNil) [some d, some (.ref 1), some (.ref 0)] [some [.int x', .int y, .int z'], some left] = some (left[r.toNat], [some [.int x2, .int y, .int z2], some (left.eraseIdx r.toNat)]) :=
        meth_of (v1 _) (cs := left) rfl (ds := [.int r]) (S2 := [some [.int x2, .int y, .int z2], some left]) (by rw [aCons_eq, ht]; rfl) (popAt_of (i := 1) rfl r0 r1 (by omega) hrn)
      refine ⟨[some d, some (.ref 1), some (.ref 0)], left[r.toNat], _, by rw [pat_nm]; rfl, hpop, left.eraseIdx r.toNat, x2, z2, rfl, by simp; omega, ?_⟩
      rw [List.append_assoc]
      exact ((pull_perm left r.toNat hrn).append_left ys).trans h3)
  subst hS
  have hl := hp.length_eq
  rw [List.length_append, hi, Nat.min_self] at hl
  have : left = [] := List.length_eq_zero_iff.mp (by omega)
  subst this
  rw [List.append_nil] at hp
  exact ⟨ys, x', z', e2, hp⟩
theorem mixed_up_ok (x y z : Int) (ns : List Int) (hl : ns.length ≤ 1000) : ∃ (ms : List Int) (x' z' : Int), sem_law_mixed_up [x, y, z] [.lst false (ns.map .int)] = some (.lst true (ms.map .int), [x', y, z']) ∧ ms.Perm ns := by
  obtain ⟨es, x', z', e, hp⟩ := mix_c x y z (ns.map .int) (by simpa using hl)
  obtain ⟨ms, rfl, hm⟩ := ints_perm hp
  refine ⟨ms, x', z', ?_, hm⟩
  simp [sem_law_mixed_up, f_law_mixed_up, sSeq_eq, sSet_eq, sRet_eq, eVar_eq, aNil_eq, aCons_eq, eFrz_eq, eNewS_eq, nList, VS.listOf, seqOf, runM_eq, intsOf, den, List.replicate_succ, -List.map_map, -Option.map_bind, e]
end W12
end
section
set_option Elab.async false
set_option maxRecDepth 10000
set_option linter.all false
set_option maxHeartbeats 4000000
namespace W12
open PySem L2 VS
def mn (i j : Int) : Int := if j < i then j else i
def mx (i j : Int) : Int := if j > i then j else i
theorem fm_map {α β : Type} {f : α → Option β} {g : α → β} : ∀ {l : List α}, (∀ a ∈ l, f a = some (g a)) → l.filterMap f = l.map g
  | [], _ => rfl
  | a :: r, h => by rw [List.filterMap_cons_some (h a List.mem_cons_self), List.map_cons, fm_map fun b hb => h b (List.mem_cons_of_mem _ hb)]
theorem half_is (a : Nat) (ms : List Int) (ha : a ≤ 1) : HT.half a (ms.map D.int) = (List.range ((ms.length + 1 - a) / 2)).map fun k => D.int (ms.getD (a + 2 * k) 0) := by
  unfold HT.half
  rw [List.length_map]
  refine fm_map fun k hk => ?_
  have h := List.mem_range.mp hk
  have h2 : a + 2 * k < ms.length := by omega
  rw [List.getElem?_map, List.getElem?_eq_getElem h2, List.getD_eq_getElem?_getD, List.getElem?_eq_getElem h2]
  rfl
def sideOf (ms : List Int) (c : Nat) : List St2 := (List.range c).map fun k => (mn (ms.getD (0 + 2 * k) 0) (ms.getD (1 + 2 * k) 0), mx (ms.getD (0 + 2 * k) 0) (ms.getD (1 + 2 * k) 0))
structure Side (c : Nat) (m : Int) (s : List St2) : Prop where
  len : s.length = c
  all : ∀ p ∈ s, 0 ≤ p.1 ∧ p.1 < p.2 ∧ p.2 ≤ m
theorem side_of {ms : List Int} {c : Nat} (hp : ms.Perm ((List.range (2 * c)).map fun (i : Nat) => (i : Int))) : Side c (2 * c - 1) (sideOf ms c) := by
  have hlen : ms.length = 2 * c := by rw [hp.length_eq]; simp
  have hn : ms.Nodup := hp.nodup_iff.mpr (by
    show List.Pairwise (· ≠ ·) _
    rw [List.pairwise_map]
    exact List.nodup_range.imp fun h e => h (by omega))
  refine ⟨by unfold sideOf; simp, fun p hq => ?_⟩
  obtain ⟨k, hk, rfl⟩ := List.mem_map.mp hq
  have h := List.mem_range.mp hk
  have a0 : 0 + 2 * k < ms.length := by omega
  have a1 : 1 + 2 * k < ms.length := by omega
  rw [List.getD_eq_getElem?_getD, List.getElem?_eq_getElem a0, List.getD_eq_getElem?_getD, List.getElem?_eq_getElem a1, Option.getD_some, Option.getD_some]
  have ne : ms[0 + 2 * k] ≠ ms[1 + 2 * k] := fun e => by
    have := (List.getElem_inj hn).mp e
    omega
  have b : ∀ x ∈ ms, 0 ≤ x ∧ x ≤ 2 * c - 1 := fun x hx => by
    obtain ⟨i, hi, rfl⟩ := List.mem_map.mp (hp.mem_iff.mp hx)
    have := List.mem_range.mp hi
    omega
  have b0 := b _ (List.getElem_mem a0)
  have b1 := b _ (List.getElem_mem a1)
  unfold mn mx
  simp only
  split <;> split <;> omega
theorem zip_up (n : Nat) (F G : Nat → D) : zipD ((List.range n).map F) ((List.range n).map G) = (List.range n).map fun k => D.tup [F k, G k] := by
  generalize List.range n = l
  induction l with
  | nil => rfl
  | cons a r ih => rw [List.map_cons, List.map_cons, zipD, ih, List.map_cons]
theorem unlike_c1 (r : VS.Env) (S : Store) (ms : List Int) (c : Nat) (hc : c ≤ 1000) (h : r[6]? = some (some (.lst true ((List.range c).map fun k => D.tup [.int (ms.getD (0 + 2 * k) 0), .int (ms.getD (1 + 2 * k) 0)])))) : law_unlike_c1 r S = some ((sideOf ms c).map encS, S) := by
  have e : iSeq (eVar 6) r S = some (((List.range c).map fun k => D.tup [.int (ms.getD (0 + 2 * k) 0), .int (ms.getD (1 + 2 * k) 0)], []), S) := by simp [eVar_eq, VS.listOf, seqOf, VS.idOf, iSeq_eq, -List.map_map, -Option.map_bind, h]
  unfold law_unlike_c1 aComp
  rw [e]
  simp only [Option.bind_some]
  rw [comp_of (by simp) (fun k => D.tup [.int (ms.getD (0 + 2 * k) 0), .int (ms.getD (1 + 2 * k) 0)]) (fun k => encS (mn (ms.getD (0 + 2 * k) 0) (ms.getD (1 + 2 * k) 0), mx (ms.getD (0 + 2 * k) 0) (ms.getD (1 + 2 * k) 0))) (List.range c) (by simp; omega)]
  · unfold sideOf; rw [List.map_map]; rfl
  · intro k _
    generalize ms.getD (0 + 2 * k) 0 = a
    generalize ms.getD (1 + 2 * k) 0 = b
    exact ⟨_, by simp [capE, pat_nm, pat_tp, pats_nil, pats_cons, List.replicate_succ, -List.map_map, -Option.map_bind]; rfl, by simp [eVar_eq, aNil_eq, aCons_eq, eCB_eq, eTup_eq, bMax2, bMin2, -List.map_map, -Option.map_bind, encS, mn, mx]⟩
def encF (ss : List (List St2)) : List D := ss.map fun s => .lst true (s.map encS)
theorem range_list {a : ASem} {env : VS.Env} {S S' : Store} {j : Int} (n : Nat) (h : a env S = some ([.int j], S')) (hn : j.toNat = n) (h0 : -1000000 ≤ j) (h1 : j ≤ 1000000) (h2 : n ≤ 1000) : eListRange a env S = some (.lst true (upD 0 n), S') := by
  rw [eListRange_eq, h, Option.bind_some]
  show (if r62 j ∧ j.toNat ≤ 1000 then some (D.lst true (upD 0 j.toNat), S') else none) = _
  rw [hn, if_pos ⟨r62_small h0 h1, h2⟩]
theorem unlike_b1 (x y z : Int) (w c : Nat) (hc : c ≤ 20) (ss : List (List St2)) (hs : ss.length ≤ 3) (z5 z6 : Option D) (k : D) : ∃ (s : List St2) (x' z' : Int) (d5 d6 : Option D), Side c (2 * c - 1) s ∧
    law_unlike_b1 [some (.ref 0), some (.int w), some (.int c), some (.ref 1), some k, z5, z6] [some [.int x, .int y, .int z], some (encF ss)] = some (.nx, [some (.ref 0), some (.int w), some (.int c), some (.ref 1), some k, d5, d6], [some [.int x', .int y, .int z'], some (encF (ss ++ [s]))]) := by
  obtain ⟨ms, x', z', e1, hp⟩ := mixed_up_ok x y z ((List.range (2 * c)).map fun (i : Nat) => (i : Int)) (by simp; omega)
  have hlen : ms.length = 2 * c := by rw [hp.length_eq]; simp
  have hU : upD 0 (2 * c) = ((List.range (2 * c)).map fun (i : Nat) => (i : Int)).map D.int := by
    unfold upD
    rw [List.map_map]
    simp only [Int.zero_add]; rfl
  have s1 : (sSet 5 (eCallM sem_law_mixed_up (aCons (eVar 0) (aCons (eListRange (aCons (eOp oMul (eC (.int 2)) (eVar 2)) aNil)) aNil)))) [some (.ref 0), some (.int w), some (.int c), some (.ref 1), some k, z5, z6] [some [.int x, .int y, .int z], some (encF ss)] = some (.nx, [some (.ref 0), some (.int w), some (.int c), some (.ref 1), some k, some (.lst true (ms.map .int)), z6], [some [.int x', .int y, .int z'], some (encF ss)]) := by
    have l1 := range_list (a := aCons (eOp oMul (eC (.int 2)) (eVar 2)) aNil) (env := [some (.ref 0), some (.int w), some (.int c), some (.ref 1), some k, z5, z6]) (S := [some [.int x, .int y, .int z], some (encF ss)]) (S' := [some [.int x, .int y, .int z], some (encF ss)]) (j := 2 * (c : Int)) (2 * c) (by simp [eVar_eq, eC_eq, eOp_eq, aNil_eq, aCons_eq, cMul, oMul, VS.listOf, -List.map_map, -Option.map_bind]) (by omega) (by omega) (by omega) (by omega)
    rw [hU] at l1
    have v0 : eVar 0 [some (.ref 0), some (.int w), some (.int c), some (.ref 1), some k, z5, z6] [some [.int x, .int y, .int z], some (encF ss)] = some (.ref 0, [some [.int x, .int y, .int z], some (encF ss)]) := rfl
    rw [sSet_eq, callM_of (ns := [x, y, z]) (rest := [.lst true (((List.range (2 * c)).map fun (i : Nat) => (i : Int)).map D.int)]) (es := [.lst false (((List.range (2 * c)).map fun (i : Nat) => (i : Int)).map D.int)]) (i := 0) (S' := [some [.int x, .int y, .int z], some (encF ss)]) (by rw [aCons_eq, v0, Option.bind_some, aCons_eq, l1]; rfl) rfl (by rw [pureL, pureD, pureL_ints, pureL]; rfl) (by rw [ageL, age, ageL_ints, ageL]) e1]
    rfl
  have s2 : (sSet 6 (eListZip (aCons (eUn (oHalf 0) (eVar 5)) (aCons (eUn (oHalf 1) (eVar 5)) aNil)))) [some (.ref 0), some (.int w), some (.int c), some (.ref 1), some k, some (.lst true (ms.map .int)), z6] [some [.int x', .int y, .int z'], some (encF ss)] = some (.nx, [some (.ref 0), some (.int w), some (.int c), some (.ref 1), some k, some (.lst true (ms.map .int)), some (.lst true ((List.range c).map fun k => D.tup [.int (ms.getD (0 + 2 * k) 0), .int (ms.getD (1 + 2 * k) 0)]))], [some [.int x', .int y, .int z'], some (encF ss)]) := by
    have u0 : ∀ a : Nat, eUn (oHalf a) (eVar 5) [some (.ref 0), some (.int w), some (.int c), some (.ref 1), some k, some (.lst true (ms.map .int)), z6] [some [.int x', .int y, .int z'], some (encF ss)] = some (.lst true (HT.half a (ms.map .int)), [some [.int x', .int y, .int z'], some (encF ss)]) := fun a => rfl
    have c0 : (ms.length + 1 - 0) / 2 = c := by omega
    have c1 : (ms.length + 1 - 1) / 2 = c := by omega
    rw [sSet_eq, eListZip_eq, aCons_eq, u0, Option.bind_some, aCons_eq, u0, half_is 0 ms (by decide), half_is 1 ms (by decide), c0, c1]
    show ((if (zipD ((List.range c).map fun k => D.int (ms.getD (0 + 2 * k) 0)) ((List.range c).map fun k => D.int (ms.getD (1 + 2 * k) 0))).length ≤ 1000000 then some (D.lst true (zipD ((List.range c).map fun k => D.int (ms.getD (0 + 2 * k) 0)) ((List.range c).map fun k => D.int (ms.getD (1 + 2 * k) 0))), _) else none) : Option (D × Store)).bind _ = _
    rw [zip_up, if_pos (by rw [List.length_map, List.length_range]; omega)]
    rfl
  have c1 := unlike_c1 [some (.ref 0), some (.int w), some (.int c), some (.ref 1), some k, some (.lst true (ms.map .int)), some (.lst true ((List.range c).map fun k => D.tup [.int (ms.getD (0 + 2 * k) 0), .int (ms.getD (1 + 2 * k) 0)]))] [some [.int x', .int y, .int z'], some (encF ss)] ms c (by omega) rfl
  refine ⟨sideOf ms c, x', z', some (.lst true (ms.map .int)), some (.lst true ((List.range c).map fun k => D.tup [.int (ms.getD (0 + 2 * k) 0), .int (ms.getD (1 + 2 * k) 0)])), side_of hp, ?_⟩
  unfold law_unlike_b1
  rw [seq_nx s1, seq_nx s2, sExp_eq, meth_of (d := .ref 1) (cs := encF ss) (ds := [.lst true ((sideOf ms c).map encS)]) (r := .non) (S1 := [some [.int x', .int y, .int z'], some (encF ss)]) (S2 := [some [.int x', .int y, .int z'], some (encF ss)]) (S3 := [some [.int x', .int y, .int z'], some (encF (ss ++ [sideOf ms c]))]) rfl rfl (by rw [aCons_eq, eFrz_eq, c1]; rfl) (by
    show (if (encF ss).length < 1000000 then some (D.non, [some [.int x', .int y, .int z'], some (encF ss ++ [.lst true ((sideOf ms c).map encS)])]) else none) = _
    rw [if_pos (by unfold encF; rw [List.length_map]; omega)]
    unfold encF
    rw [List.map_append]; rfl)]
  rfl
theorem unlike_c2 (ss : List (List St2)) (k c : Nat) (hk : k < c) (hs : ss.length ≤ 3) (hS : ∀ s ∈ ss, s.length = c) (S : Store) (hSt : S[1]? = some (some (encF ss))) : law_unlike_c2 [some (.int k), some (.ref 1)] S = some ((ss.map fun s => s.getD k (0, 0)).map encS, S) := by
  have e : iSeq (eVar 1) [some (.int k), some (.ref 1)] S = some ((encF ss, [(1, encF ss)]), S) := by
    simp [eVar_eq, VS.listOf, seqOf, VS.idOf, iSeq_eq, -List.map_map, -Option.map_bind, hSt]
  unfold law_unlike_c2 aComp
  rw [e]
  simp only [Option.bind_some]
  rw [show encF ss = ss.map fun s => .lst true (s.map encS) from rfl, comp_of (by intro p hp; rw [List.mem_singleton.mp hp]; exact hSt) (fun s => .lst true (s.map encS)) (fun s => encS (s.getD k (0, 0))) ss (by omega)]
  · rw [List.map_map]; rfl
  · intro s hs
    have hl := hS s hs
    have ha : atI (s.map encS) (k : Int) = some (encS (s.getD k (0, 0))) := atI_nat (by
      rw [List.getElem?_map, List.getD_eq_getElem?_getD, List.getElem?_eq_getElem (show k < s.length by omega)]; rfl)
    exact ⟨_, by rw [pat_nm], by simp [eVar_eq, eOp_eq, capE, oIx, VS.listOf, seqOf, List.replicate_succ, -List.map_map, -Option.map_bind, ha]⟩
end W12
end
section
set_option Elab.async false
set_option maxRecDepth 10000
set_option linter.all false
set_option maxHeartbeats 4000000
namespace W12
open PySem L2 VS
structure Sm (n : Nat) (m : Int) (b : List St2) : Prop where
  len : b.length = n
  all : ∀ p ∈ b, 0 ≤ p.1 ∧ p.1 < p.2 ∧ p.2 ≤ m
theorem unlike_ok (x y z : Int) (n c : Nat) (hn : n ≤ 3) (hc : c ≤ 20) : ∃ (bs : List (List St2)) (x' z' : Int), sem_law_unlike [x, y, z] [.int n, .int c] = some (.lst true (bs.map encB), [x', y, z']) ∧ bs.length = c ∧ ∀ b ∈ bs, Sm n (2 * c - 1) b := by
  have s1 : (sSet 3 (eSto aNil)) [some (.ref 0), some (.int n), some (.int c), none, none, none, none] [some [.int x, .int y, .int z]] = some (.nx, [some (.ref 0), some (.int n), some (.int c), some (.ref 1), none, none, none], [some [.int x, .int y, .int z], some (encF [])]) := by simp [sSet_eq, aNil_eq, eSto_eq, -List.map_map, -Option.map_bind, encF]
  have e : iRange1 (aCons (eVar 1) aNil) [some (.ref 0), some (.int n), some (.int c), some (.ref 1), none, none, none] [some [.int x, .int y, .int z], some (encF [])] = some ((upD 0 n, []), [some [.int x, .int y, .int z], some (encF [])]) := range1 _ (by simp [eVar_eq, aNil_eq, aCons_eq, -List.map_map, -Option.map_bind]; rfl) (by simp) (by omega) (by omega)
  obtain ⟨env', S', e2, ss, x', z', z4, z5, z6, he, hS, hl, hs⟩ := loop_all (w := []) (g := Pat.sem (.nm 4)) (b := law_unlike_b1) (ds := upD 0 n) (env := [some (.ref 0), some (.int n), some (.int c), some (.ref 1), none, none, none]) (S := [some [.int x, .int y, .int z], some (encF [])])
    (fun i env S => ∃ (ss : List (List St2)) (x' z' : Int) (z4 z5 z6 : Option D), env = [some (.ref 0), some (.int n), some (.int c), some (.ref 1), z4, z5, z6] ∧ S = [some [.int x', .int y, .int z'], some (encF ss)] ∧ ss.length = min i n ∧ ∀ s ∈ ss, Side c (2 * c - 1) s)
    ⟨[], x, z, none, none, none, rfl, rfl, by simp, fun s h => by cases h⟩ (fun i env S _ => by simp) (fun i d env S hd q => by
      obtain ⟨ss, x', z', z4, z5, z6, he, hS, hl, hs⟩ := q
      obtain ⟨hi, rfl⟩ := upD_get hd
      subst he hS
      obtain ⟨s, x2, z2, d5, d6, hs1, e3⟩ := unlike_b1 x' y z' n c hc ss (by omega) z5 z6 (.int (0 + i))
      refine ⟨_, pat_nm _ _ _, _, _, e3, ss ++ [s], x2, z2, _, _, _, rfl, rfl, by simp; omega, fun t ht => ?_⟩
      rcases List.mem_append.mp ht with q | q
      · exact hs t q
      · rw [List.mem_singleton.mp q]; exact hs1)
  rw [upD_len, Nat.min_self] at hl
  subst he hS
  have l1 : law_unlike_l1 [some (.ref 0), some (.int n), some (.int c), some (.ref 1), none, none, none] [some [.int x, .int y, .int z], some (encF [])] = some (.nx, [some (.ref 0), some (.int n), some (.int c), some (.ref 1), z4, z5, z6], [some [.int x', .int y, .int z'], some (encF ss)]) := by
    unfold law_unlike_l1
    rw [sFor_eq, e]
    exact e2
  have c3 : law_unlike_c3 [some (.ref 0), some (.int n), some (.int c), some (.ref 1), z4, z5, z6] [some [.int x', .int y, .int z'], some (encF ss)] = some ((List.range c).map (fun k => encB (ss.map fun s => s.getD k (0, 0))), [some [.int x', .int y, .int z'], some (encF ss)]) := by
    have e : iRange1 (aCons (eVar 2) aNil) [some (.ref 0), some (.int n), some (.int c), some (.ref 1), z4, z5, z6] [some [.int x', .int y, .int z'], some (encF ss)] = some ((upD 0 c, []), [some [.int x', .int y, .int z'], some (encF ss)]) := range1 _ (by simp [eVar_eq, aNil_eq, aCons_eq, -List.map_map, -Option.map_bind]; rfl) (by simp) (by omega) (by omega)
    unfold law_unlike_c3 aComp
    rw [e]
    simp only [Option.bind_some]
    exact comp_up (by simp) c _ (by omega) fun k hk => ⟨_, pat_nm _ _ _, by
      have := unlike_c2 ss k c hk (by omega) (fun s h => (hs s h).len) [some [.int x', .int y, .int z'], some (encF ss)] rfl
      rw [eCB_eq, aCons_eq, eFrz_eq]
      show (((law_unlike_c2 [some (.int k), some (.ref 1)] [some [.int x', .int y, .int z'], some (encF ss)]).bind _).bind _).bind _ = _
      rw [this]
      simp [aNil_eq, capE, bTup, VS.listOf, seqOf, List.replicate_succ, -List.map_map, -Option.map_bind, encB]⟩
  refine ⟨(List.range c).map (fun k => ss.map fun s => s.getD k (0, 0)), x', z', ?_, by simp, fun b hb => ?_⟩
  · unfold sem_law_unlike
    rw [runM_eq]
    simp only [List.length_cons, List.length_nil, List.map_cons, List.map_nil, Nat.reduceAdd, Nat.reduceSub, List.replicate_succ, List.replicate_zero, List.cons_append, List.nil_append, if_true]
    unfold f_law_unlike
    rw [seq_nx s1, seq_nx l1, sRet_eq, eFrz_eq, c3]
    have hf : pureL ((List.range c).map fun k => encB (ss.map fun s => s.getD k (0, 0))) = true := flatL_pure (flatL_map _ fun k _ => flat_encB _)
    simp only [Option.bind_some, List.getElem?_cons_zero]
    rw [show ([D.int x', .int y, .int z'] : List D) = ([x', y, z'].map D.int) from rfl, intsOf_map]
    show Option.map _ (den 1 _ (.lst true _)) = _
    rw [den, pure_denL 1 _ hf, List.map_map]; rfl
  · obtain ⟨k, hk, rfl⟩ := List.mem_map.mp hb
    have hk' := List.mem_range.mp hk
    refine ⟨by simpa using hl, fun p hp => ?_⟩
    obtain ⟨s, h1, rfl⟩ := List.mem_map.mp hp
    have hs1 := hs s h1
    have hlt : k < s.length := by rw [hs1.len]; exact hk'
    rw [List.getD_eq_getElem?_getD, List.getElem?_eq_getElem hlt]
    exact hs1.all _ (List.getElem_mem hlt)
end W12
end
section
set_option Elab.async false
set_option maxRecDepth 10000
set_option linter.all false
set_option maxHeartbeats 4000000
namespace W12
open PySem L2 VS
structure Mk (m : Nat) (ms : List Int) : Prop where
  rise : ms.Pairwise (· < ·)
  len : ms.length = m + 1
  near : ∀ x ∈ ms, -1000000000 ≤ x ∧ x ≤ 1000000000
theorem ixN_last {n : Nat} : ixN (n + 1) (-1) = some n := by
  unfold ixN
  rw [if_neg (by omega), if_pos (by omega)]
  congr 1
  omega
theorem atI_last {α : Type} (l : List α) (a : α) : atI (l ++ [a]) (-1) = some a := by
  unfold atI
  rw [List.length_append, List.length_cons, List.length_nil, ixN_last, Option.bind_some]
  simp
theorem marks_b1 (x y z : Int) (m : Nat) (st hr : Int) (hm : m ≤ 40) (h0 : 0 < st) (h1 : st ≤ 1000000000) (pre : List Int) (l : Int) (i : Nat) (hi : pre.length = i) (hl2 : i ≤ 100) (hl : l ≤ 1000000000 - 200 - m + i - 1) : ∃ (v x' z' : Int), l < v ∧ v ≤ 1000000000 - 200 - m + i ∧
    law_marks_b1 [some (.ref 0), some (.int m), some (.int st), some (.int hr), some (.ref 1), some (.int i)] [some [.int x, .int y, .int z], some ((pre ++ [l]).map .int)] = some (.nx, [some (.ref 0), some (.int m), some (.int st), some (.int hr), some (.ref 1), some (.int i)], [some [.int x', .int y, .int z'], some ((pre ++ [l] ++ [v]).map .int)]) := by
  obtain ⟨t, x', z', e1, t0, t1⟩ := take_ok x y z st h0 (by omega)
  obtain ⟨v, hv⟩ : ∃ v : Int, v = (if (1000000000 : Int) - 200 - m + i < l + 1 + t then (1000000000 : Int) - 200 - m + i else l + 1 + t) := ⟨_, rfl⟩
  refine ⟨v, x', z', by rw [hv]; split <;> omega, by rw [hv]; split <;> omega, ?_⟩
  have ha : atI ((pre ++ [l]).map D.int) (-1) = some (.int l) := by
    rw [List.map_append]; exact atI_last _ _
  have i1 : eOp oIx (eVar 4) (eUn oNeg (eC (.int 1))) [some (.ref 0), some (.int m), some (.int st), some (.int hr), some (.ref 1), some (.int i)] [some [.int x, .int y, .int z], some ((pre ++ [l]).map .int)] = some (.int l, [some [.int x, .int y, .int z], some ((pre ++ [l]).map .int)]) := by
    have v4 : eVar 4 [some (.ref 0), some (.int m), some (.int st), some (.int hr), some (.ref 1), some (.int i)] [some [.int x, .int y, .int z], some ((pre ++ [l]).map .int)] = some (.ref 1, [some [.int x, .int y, .int z], some ((pre ++ [l]).map .int)]) := rfl
    rw [eOp_eq, v4, Option.bind_some]
    show ((some (oIx [some [.int x, .int y, .int z], some ((pre ++ [l]).map .int)] (.ref 1) (.int (-1)))).bind _) = _
    show Option.map _ (atI ((pre ++ [l]).map D.int) (-1)) = _
    rw [ha]; rfl
  have t2 : eCallM sem_law_take (aCons (eVar 0) (aCons (eVar 2) aNil)) [some (.ref 0), some (.int m), some (.int st), some (.int hr), some (.ref 1), some (.int i)] [some [.int x, .int y, .int z], some ((pre ++ [l]).map .int)] = some (.int t, [some [.int x', .int y, .int z'], some ((pre ++ [l]).map .int)]) :=
    callM_of (ns := [x, y, z]) (rest := [.int st]) (es := [.int st]) (i := 0) (S' := [some [.int x, .int y, .int z], some ((pre ++ [l]).map .int)]) rfl rfl (by simp [pureL, pureD]) (by simp [ageL, age]) e1
  have k1 : eOp oAdd (eOp oSub (eOp oSub (eOp oPow (eC (.int 10)) (eC (.int 9))) (eC (.int 200))) (eVar 1)) (eVar 5) [some (.ref 0), some (.int m), some (.int st), some (.int hr), some (.ref 1), some (.int i)] [some [.int x', .int y, .int z'], some ((pre ++ [l]).map .int)] = some (.int (1000000000 - 200 - m + i), [some [.int x', .int y, .int z'], some ((pre ++ [l]).map .int)]) := by simp [eVar_eq, eC_eq, eOp_eq, oI, yes2, cPow, oAdd, oSub, oPow, VS.listOf, -List.map_map, -Option.map_bind]
  unfold law_marks_b1
  rw [sExp_eq, meth_of (d := .ref 1) (cs := (pre ++ [l]).map .int) (ds := [.int v]) (r := .non) (S1 := [some [.int x, .int y, .int z], some ((pre ++ [l]).map .int)]) (S2 := [some [.int x', .int y, .int z'], some ((pre ++ [l]).map .int)]) (S3 := [some [.int x', .int y, .int z'], some ((pre ++ [l] ++ [v]).map .int)]) rfl rfl (by
    rw [aCons_eq, eCB_eq, aCons_eq, eOp_eq, eOp_eq, i1, Option.bind_some, eC_eq, Option.bind_some]
    show ((((some (D.int (l + 1), _) : Option (D × Store)).bind _).bind _).bind _).bind _ = _
    rw [Option.bind_some, t2, Option.bind_some]
    show (((some (D.int (l + 1 + t), _) : Option (D × Store)).bind _).bind _).bind _ = _
    rw [Option.bind_some, aCons_eq, k1, hv]
    rfl) (by
    show (if ((pre ++ [l]).map D.int).length < 1000000 then some (D.non, [some [.int x', .int y, .int z'], some ((pre ++ [l]).map D.int ++ [D.int v])]) else none) = _
    rw [if_pos (by simp; omega), List.map_append (l₁ := pre ++ [l])]
    rfl)]
  rfl
end W12
end
section
set_option Elab.async false
set_option maxRecDepth 10000
set_option linter.all false
set_option maxHeartbeats 4000000
namespace W12
open PySem L2 VS
theorem marks_l (x y z : Int) (m : Nat) (st hr : Int) (hm : m ≤ 40) (h0 : 0 < st) (h1 : st ≤ 1000000000) (hr0 : -1000000000 ≤ hr) (hr1 : hr ≤ 0) : ∃ (pre : List Int) (l x' z' : Int) (z5 : Option D),
    law_marks_l1 [some (.ref 0), some (.int m), some (.int st), some (.int hr), some (.ref 1), none] [some [.int x, .int y, .int z], some [.int hr]] = some (.nx, [some (.ref 0), some (.int m), some (.int st), some (.int hr), some (.ref 1), z5], [some [.int x', .int y, .int z'], some ((pre ++ [l]).map .int)]) ∧
    pre.length = m ∧ (pre ++ [l]).Pairwise (· < ·) ∧ (∀ e ∈ pre ++ [l], -1000000000 ≤ e) ∧ l ≤ 1000000000 - 201 := by
  have e : iRange1 (aCons (eVar 1) aNil) [some (.ref 0), some (.int m), some (.int st), some (.int hr), some (.ref 1), none] [some [.int x, .int y, .int z], some [.int hr]] = some ((upD 0 m, []), [some [.int x, .int y, .int z], some [.int hr]]) := range1 _ (by simp [eVar_eq, aNil_eq, aCons_eq, -List.map_map, -Option.map_bind]; rfl) (by simp) (by omega) (by omega)
  obtain ⟨env', S', e2, pre, l, x', z', z5, he, hS, hl, hp, hb, hq⟩ := loop_all (w := []) (g := Pat.sem (.nm 5)) (b := law_marks_b1) (ds := upD 0 m) (env := [some (.ref 0), some (.int m), some (.int st), some (.int hr), some (.ref 1), none]) (S := [some [.int x, .int y, .int z], some [.int hr]])
    (fun i env S => ∃ (pre : List Int) (l x' z' : Int) (z5 : Option D), env = [some (.ref 0), some (.int m), some (.int st), some (.int hr), some (.ref 1), z5] ∧ S = [some [.int x', .int y, .int z'], some ((pre ++ [l]).map .int)] ∧ pre.length = min i m ∧ (pre ++ [l]).Pairwise (· < ·) ∧ (∀ e ∈ pre ++ [l], -1000000000 ≤ e) ∧ l ≤ 1000000000 - 200 - m + (min i m : Nat) - 1)
    ⟨[], hr, x, z, none, rfl, rfl, by simp, by simp, by simpa using hr0, by simp; omega⟩ (fun i env S _ => by simp) (fun i d env S hd q => by
      obtain ⟨pre, l, x', z', z5, he, hS, hl, hp, hb, hq⟩ := q
      obtain ⟨hi, rfl⟩ := upD_get hd
      subst he hS
      have hi' : min i m = i := by omega
      rw [hi'] at hl hq
      obtain ⟨v, x2, z2, v1, v2, e3⟩ := marks_b1 x' y z' m st hr hm h0 h1 pre l i hl (by omega) hq
      rw [Int.zero_add]
      refine ⟨_, pat_nm _ _ _, _, _, e3, pre ++ [l], v, x2, z2, _, rfl, rfl, by simp; omega, ?_, ?_, ?_⟩
      · refine List.pairwise_append.mpr ⟨hp, by simp, fun a ha b hb' => ?_⟩
        rw [List.mem_singleton.mp hb']
        rcases List.mem_append.mp ha with q | q
        · have := (List.pairwise_append.mp hp).2.2 a q l (by simp); omega
        · rw [List.mem_singleton.mp q]; exact v1
      · intro e he
        rcases List.mem_append.mp he with q | q
        · exact hb e q
        · rw [List.mem_singleton.mp q]
          have := hb l (by simp); omega
      · have : min (i + 1) m = i + 1 := by omega
        rw [this]; omega)
  rw [upD_len, Nat.min_self] at hl hq
  subst he hS
  refine ⟨pre, l, x', z', z5, ?_, hl, hp, hb, by omega⟩
  unfold law_marks_l1
  rw [sFor_eq, e]
  exact e2
theorem marks_ok (x y z : Int) (m : Nat) (h1 : 8 ≤ m) (h2 : m ≤ 40) : ∃ (ms : List Int) (x' z' : Int), sem_law_marks [x, y, z] [.int m] = some (.lst true (ms.map .int), [x', y, z']) ∧ Mk m ms := by
  obtain ⟨r1, x1, z1, e1, p1, p2⟩ := take_ok x y z 3 (by decide) (by decide)
  obtain ⟨st, f1, st0, st1⟩ : ∃ st : Int, atI [D.int 1, D.int 3, D.int (1000000000 / (m : Int))] r1 = some (.int st) ∧ 0 < st ∧ st ≤ 1000000000 := by
    have : r1 = 0 ∨ r1 = 1 ∨ r1 = 2 := by omega
    rcases this with rfl | rfl | rfl
    · exact ⟨1, by simp, by decide, by decide⟩
    · exact ⟨3, by simp, by decide, by decide⟩
    · refine ⟨1000000000 / (m : Int), by simp, ?_, Int.ediv_le_self _ (by decide)⟩
      have : (1 : Int) ≤ 1000000000 / (m : Int) := (Int.le_ediv_iff_mul_le (by omega)).mpr (by omega)
      omega
  obtain ⟨r2, x2, z2, e2, q1, q2⟩ := take_ok x1 y z1 10 (by decide) (by decide)
  obtain ⟨r3, x3, z3, e3, q3, q4⟩ := take_ok x2 y z2 3 (by decide) (by decide)
  obtain ⟨hr, f2, hr0, hr1⟩ : ∃ hr : Int, atI [D.int 0, D.int (0 - r2), D.int (-1000000000)] r3 = some (.int hr) ∧ -1000000000 ≤ hr ∧ hr ≤ 0 := by
    have : r3 = 0 ∨ r3 = 1 ∨ r3 = 2 := by omega
    rcases this with rfl | rfl | rfl
    · exact ⟨0, by simp, by decide, by decide⟩
    · exact ⟨0 - r2, by simp, by omega, by omega⟩
    · exact ⟨-1000000000, by simp, by decide, by decide⟩
  obtain ⟨pre, l, x4, z4, z5, e4, hl, hp, hb, hq⟩ := marks_l x3 y z3 m st hr h2 st0 st1 hr0 hr1
  obtain ⟨r5, x5, z5', e5, _, _⟩ := take_ok x4 y z4 3 (by decide) (by decide)
  have hm0 : (0 : Int) < m := by omega
  have hm1 : (m : Int) < 18446744073709551616 := by omega
  have hmN : 0 < m := by omega
  have s1 : (sSet 2 (eOp oIx (eFrz (aCons (eC (.int 1)) (aCons (eC (.int 3)) (aCons (eOp oDiv (eOp oPow (eC (.int 10)) (eC (.int 9))) (eVar 1)) aNil)))) (eCallM sem_law_take (aCons (eVar 0) (aCons (eC (.int 3)) aNil))))) [some (.ref 0), some (.int m), none, none, none, none] [some [.int x, .int y, .int z]] = some (.nx, [some (.ref 0), some (.int m), some (.int st), none, none, none], [some [.int x1, .int y, .int z1]]) := by
    simp [sSet_eq, eVar_eq, eC_eq, eOp_eq, aNil_eq, aCons_eq, eFrz_eq, eCallM_eq, oI, cDiv, cPow, oDiv, oPow, oIx, VS.listOf, seqOf, intsOf, den, denL, age, ageL, pureD, pureL, -List.map_map, -Option.map_bind, e1, f1, hmN, hm1]
  have s2 : (sSet 3 (eOp oIx (eFrz (aCons (eC (.int 0)) (aCons (eOp oSub (eC (.int 0)) (eCallM sem_law_take (aCons (eVar 0) (aCons (eC (.int 10)) aNil)))) (aCons (eOp oSub (eC (.int 0)) (eOp oPow (eC (.int 10)) (eC (.int 9)))) aNil)))) (eCallM sem_law_take (aCons (eVar 0) (aCons (eC (.int 3)) aNil))))) [some (.ref 0), some (.int m), some (.int st), none, none, none] [some [.int x1, .int y, .int z1]] = some (.nx, [some (.ref 0), some (.int m), some (.int st), some (.int hr), none, none], [some [.int x3, .int y, .int z3]]) := by
    rw [Int.zero_sub] at f2
    simp [sSet_eq, eVar_eq, eC_eq, eOp_eq, aNil_eq, aCons_eq, eFrz_eq, eCallM_eq, oI, yes2, cPow, oSub, oPow, oIx, VS.listOf, seqOf, intsOf, den, denL, age, ageL, pureD, pureL, -List.map_map, -Option.map_bind, e2, e3, f2]
  have s3 : (sSet 4 (eSto (aCons (eVar 3) aNil))) [some (.ref 0), some (.int m), some (.int st), some (.int hr), none, none] [some [.int x3, .int y, .int z3]] = some (.nx, [some (.ref 0), some (.int m), some (.int st), some (.int hr), some (.ref 1), none], [some [.int x3, .int y, .int z3], some [.int hr]]) := by simp [sSet_eq, eVar_eq, aNil_eq, aCons_eq, eSto_eq, -List.map_map, -Option.map_bind]
  have t5 : ∀ (a : List D) (c : Int) (x y z x' z' r : Int), sem_law_take [x, y, z] [.int c] = some (.int r, [x', y, z']) → tVal (eOp (oEq false) (eCallM sem_law_take (aCons (eVar 0) (aCons (eC (.int c)) aNil))) (eC (.int 0))) [some (.ref 0), some (.int m), some (.int st), some (.int hr), some (.ref 1), z5] [some [.int x, .int y, .int z], some a] = some (decide (r = 0), [some [.int x', .int y, .int z'], some a]) := fun a c x y z x' z' r h => by
    have t2 : eCallM sem_law_take (aCons (eVar 0) (aCons (eC (.int c)) aNil)) [some (.ref 0), some (.int m), some (.int st), some (.int hr), some (.ref 1), z5] [some [.int x, .int y, .int z], some a] = some (.int r, [some [.int x', .int y, .int z'], some a]) :=
      callM_of (ns := [x, y, z]) (rest := [.int c]) (es := [.int c]) (i := 0) (S' := [some [.int x, .int y, .int z], some a]) rfl rfl (by simp [pureL, pureD]) (by simp [ageL, age]) h
    rw [tVal_eq, eOp_eq, t2, Option.bind_some]
    simp [eC_eq, oEq, -List.map_map, -Option.map_bind]
  obtain ⟨l', hl', s4⟩ : ∃ l' : Int, (l' = l ∨ l' = 1000000000) ∧ (sIf (tVal (eOp (oEq false) (eCallM sem_law_take (aCons (eVar 0) (aCons (eC (.int 3)) aNil))) (eC (.int 0)))) (sSetIx (eOp oPow (eC (.int 10)) (eC (.int 9))) (eVar 4) (eUn oNeg (eC (.int 1)))) sNil) [some (.ref 0), some (.int m), some (.int st), some (.int hr), some (.ref 1), z5] [some [.int x4, .int y, .int z4], some ((pre ++ [l]).map .int)] = some (.nx, [some (.ref 0), some (.int m), some (.int st), some (.int hr), some (.ref 1), z5], [some [.int x5, .int y, .int z5'], some ((pre ++ [l']).map .int)]) := by
    have ts := t5 ((pre ++ [l]).map .int) 3 x4 y z4 x5 z5' r5 e5
    by_cases h : r5 = 0
    · rw [decide_eq_true h] at ts
      refine ⟨1000000000, .inr rfl, ?_⟩
      rw [if_yes ts, sSetIx_eq]
      have p9 := pow10 9 (by decide) [some (.ref 0), some (.int m), some (.int st), some (.int hr), some (.ref 1), z5] [some [.int x5, .int y, .int z5'], some ((pre ++ [l]).map .int)]
      have hx : ixN ((pre ++ [l]).map D.int).length (-1) = some pre.length := by
        rw [List.length_map, List.length_append]; exact ixN_last
      refine (congrArg (fun z => Option.bind z _) p9).trans ?_
      show (ixN ((pre ++ [l]).map D.int).length (-1)).bind _ = _
      rw [hx]
      show some (Fl.nx, _, [some [.int x5, .int y, .int z5'], some (((pre ++ [l]).map D.int).set pre.length (.int (10 ^ 9)))]) = _
      rw [List.map_append, List.map_append, List.set_append_right _ _ (by simp)]
      simp
    · rw [decide_eq_false h] at ts
      exact ⟨l, .inl rfl, by rw [if_no ts]; rfl⟩
  have hp' : (pre ++ [l']).Pairwise (· < ·) := by
    obtain ⟨a1, _, a3⟩ := List.pairwise_append.mp hp
    refine List.pairwise_append.mpr ⟨a1, by simp, fun a ha b hb' => ?_⟩
    rw [List.mem_singleton.mp hb']
    have := a3 a ha l (by simp)
    rcases hl' with h | h <;> omega
  have hn' : ∀ e ∈ pre ++ [l'], -1000000000 ≤ e ∧ e ≤ 1000000000 := fun e he => by
    rcases List.mem_append.mp he with q | q
    · have := hb e (List.mem_append_left _ q)
      have := (List.pairwise_append.mp hp).2.2 e q l (by simp)
      omega
    · rw [List.mem_singleton.mp q]
      have := hb l (by simp)
      rcases hl' with h | h <;> omega
  have len' : (pre ++ [l']).length = m + 1 := by simp [hl]
  generalize pre ++ [l'] = ms at *
  obtain ⟨r6, x6, z6, e6, _, _⟩ := take_ok x5 y z5' 6 (by decide) (by decide)
  obtain ⟨ns, hns, s5⟩ : ∃ ns : List Int, Mk m ns ∧ (sIf (tVal (eOp (oEq false) (eCallM sem_law_take (aCons (eVar 0) (aCons (eC (.int 6)) aNil))) (eC (.int 0)))) (sSetIx (eOp oSub (eC (.int 0)) (eOp oPow (eC (.int 10)) (eC (.int 9)))) (eVar 4) (eC (.int 0))) sNil) [some (.ref 0), some (.int m), some (.int st), some (.int hr), some (.ref 1), z5] [some [.int x5, .int y, .int z5'], some (ms.map .int)] = some (.nx, [some (.ref 0), some (.int m), some (.int st), some (.int hr), some (.ref 1), z5], [some [.int x6, .int y, .int z6], some (ns.map .int)]) := by
    have ts := t5 (ms.map .int) 6 x5 y z5' x6 z6 r6 e6
    by_cases h : r6 = 0
    · rw [decide_eq_true h] at ts
      cases ms with
      | nil => simp at len'
      | cons a r =>
        refine ⟨-1000000000 :: r, ⟨?_, by simpa using len', fun e he => ?_⟩, ?_⟩
        · obtain ⟨a1, a2⟩ := List.pairwise_cons.mp hp'
          refine List.pairwise_cons.mpr ⟨fun b hb' => ?_, a2⟩
          have := a1 b hb'
          have := hn' a List.mem_cons_self
          omega
        · rcases List.mem_cons.mp he with q | q
          · omega
          · exact hn' e (List.mem_cons_of_mem _ q)
        · have w1 : eOp oSub (eC (.int 0)) (eOp oPow (eC (.int 10)) (eC (.int 9))) [some (.ref 0), some (.int m), some (.int st), some (.int hr), some (.ref 1), z5] [some [.int x6, .int y, .int z6], some ((a :: r).map .int)] = some (.int (-1000000000), [some [.int x6, .int y, .int z6], some ((a :: r).map .int)]) := by simp [eC_eq, eOp_eq, oI, yes2, cPow, oSub, oPow, -List.map_map, -Option.map_bind]
          rw [if_yes ts, sSetIx_eq, w1]
          show (ixN ((a :: r).map D.int).length 0).bind _ = _
          rw [List.map_cons, List.length_cons, ixN_0]
          rfl
    · rw [decide_eq_false h] at ts
      exact ⟨ms, ⟨hp', len', hn'⟩, by rw [if_no ts]; rfl⟩
  refine ⟨ns, x6, z6, ?_, hns⟩
  unfold sem_law_marks
  rw [runM_eq]
  simp only [List.length_cons, List.length_nil, List.map_cons, List.map_nil, Nat.reduceAdd, Nat.reduceSub, List.replicate_succ, List.replicate_zero, List.cons_append, List.nil_append, if_true]
  unfold f_law_marks
  rw [seq_nx s1, seq_nx s2, seq_nx s3, seq_nx e4, seq_nx s4, seq_nx s5]
  simp [sRet_eq, eVar_eq, intsOf, den, -List.map_map, -Option.map_bind]
end W12
end
section
set_option Elab.async false
set_option maxRecDepth 10000
set_option linter.all false
set_option maxHeartbeats 4000000
namespace W12
open PySem L2 VS
theorem at2 (a b c : Option (List D)) (R : Store) : (a :: b :: (R ++ [c]))[R.length + 2]? = some c := by
  show (R ++ [c])[R.length]? = some c
  exact end0 R c []
theorem put2 (a b c d : Option (List D)) (R : Store) : (a :: b :: (R ++ [c])).set (R.length + 2) d = a :: b :: (R ++ [d]) := by
  show a :: b :: (R ++ [c]).set R.length d = _
  rw [set0 R c d []]
theorem take_at {x y z c r x' z' : Int} {a : ESem} {env : VS.Env} {S : Store} (h : sem_law_take [x, y, z] [.int c] = some (.int r, [x', y, z'])) (h0 : env[0]? = some (some (.ref 0))) (ha : a env (some [.int x, .int y, .int z] :: S) = some (.int c, some [.int x, .int y, .int z] :: S)) : eCallM sem_law_take (aCons (eVar 0) (aCons a aNil)) env (some [.int x, .int y, .int z] :: S) = some (.int r, some [.int x', .int y, .int z'] :: S) := by
  have v0 : eVar 0 env (some [.int x, .int y, .int z] :: S) = some (.ref 0, some [.int x, .int y, .int z] :: S) := by rw [eVar_eq, h0]; rfl
  exact callM_of (ns := [x, y, z]) (rest := [.int c]) (es := [.int c]) (i := 0) (S' := some [.int x, .int y, .int z] :: S) (by rw [aCons_eq, v0, Option.bind_some, aCons_eq, ha]; rfl) rfl (by simp [pureL, pureD]) (by simp [ageL, age]) h
theorem small_b1 (x y z : Int) (e1 e2 e3 e4 z7 z9 z10 z11 z12 : Option D) (wd : Int) (h0 : 0 < wd) (h1 : wd ≤ 40) (f : List D) (R : Store) (bx : List St2) (hb : bx.length ≤ 3) : ∃ (p : St2) (x' z' : Int), (0 ≤ p.1 ∧ p.1 < p.2 ∧ p.2 ≤ wd) ∧
    law_small_b1 [some (.ref 0), e1, e2, e3, e4, some (.int wd), some (.ref 1), z7, some (.ref (R.length + 2)), z9, z10, z11, z12] (some [.int x, .int y, .int z] :: some f :: (R ++ [some (bx.map encS)])) = some (.nx, [some (.ref 0), e1, e2, e3, e4, some (.int wd), some (.ref 1), z7, some (.ref (R.length + 2)), z9, some (.int p.1), z11, z12], some [.int x', .int y, .int z'] :: some f :: (R ++ [some ((bx ++ [p]).map encS)])) := by
  obtain ⟨lo, x1, z1, t1, l0, l1⟩ := take_ok x y z wd h0 (by omega)
  obtain ⟨u, x2, z2, t2, u0, u1⟩ := take_ok x1 y z1 (wd - lo) (by omega) (by omega)
  obtain ⟨r, x3, z3, t3, r0, r1⟩ := take_ok x2 y z2 2 (by decide) (by decide)
  obtain ⟨k, f1, k0, k1⟩ : ∃ k : Int, atI [D.int 0, D.int u] r = some (.int k) ∧ 0 ≤ k ∧ k < wd - lo := by
    have : r = 0 ∨ r = 1 := by omega
    rcases this with rfl | rfl
    · exact ⟨0, by simp, by decide, by omega⟩
    · exact ⟨u, by simp, u0, u1⟩
  refine ⟨(lo, lo + 1 + k), x3, z3, ⟨l0, by show lo < lo + 1 + k; omega, by show lo + 1 + k ≤ wd; omega⟩, ?_⟩
  have s1 : (sSet 10 (eCallM sem_law_take (aCons (eVar 0) (aCons (eVar 5) aNil)))) [some (.ref 0), e1, e2, e3, e4, some (.int wd), some (.ref 1), z7, some (.ref (R.length + 2)), z9, z10, z11, z12] (some [.int x, .int y, .int z] :: some f :: (R ++ [some (bx.map encS)])) = some (.nx, [some (.ref 0), e1, e2, e3, e4, some (.int wd), some (.ref 1), z7, some (.ref (R.length + 2)), z9, some (.int lo), z11, z12], some [.int x1, .int y, .int z1] :: some f :: (R ++ [some (bx.map encS)])) := by
    rw [sSet_eq, take_at t1 rfl rfl]; rfl
  have q2 : eCallM sem_law_take (aCons (eVar 0) (aCons (eOp oSub (eVar 5) (eVar 10)) aNil)) [some (.ref 0), e1, e2, e3, e4, some (.int wd), some (.ref 1), z7, some (.ref (R.length + 2)), z9, some (.int lo), z11, z12] (some [.int x1, .int y, .int z1] :: some f :: (R ++ [some (bx.map encS)])) = some (.int u, some [.int x2, .int y, .int z2] :: some f :: (R ++ [some (bx.map encS)])) := take_at t2 rfl rfl
  have q3 : eCallM sem_law_take (aCons (eVar 0) (aCons (eC (.int 2)) aNil)) [some (.ref 0), e1, e2, e3, e4, some (.int wd), some (.ref 1), z7, some (.ref (R.length + 2)), z9, some (.int lo), z11, z12] (some [.int x2, .int y, .int z2] :: some f :: (R ++ [some (bx.map encS)])) = some (.int r, some [.int x3, .int y, .int z3] :: some f :: (R ++ [some (bx.map encS)])) := take_at t3 rfl rfl
  have q4 : eOp oIx (eFrz (aCons (eC (.int 0)) (aCons (eCallM sem_law_take (aCons (eVar 0) (aCons (eOp oSub (eVar 5) (eVar 10)) aNil))) aNil))) (eCallM sem_law_take (aCons (eVar 0) (aCons (eC (.int 2)) aNil))) [some (.ref 0), e1, e2, e3, e4, some (.int wd), some (.ref 1), z7, some (.ref (R.length + 2)), z9, some (.int lo), z11, z12] (some [.int x1, .int y, .int z1] :: some f :: (R ++ [some (bx.map encS)])) = some (.int k, some [.int x3, .int y, .int z3] :: some f :: (R ++ [some (bx.map encS)])) := by
    rw [eOp_eq, eFrz_eq, aCons_eq, eC_eq, Option.bind_some, aCons_eq, q2, Option.bind_some, aNil_eq, Option.bind_some]
    simp only [Option.bind_some]
    rw [q3, Option.bind_some]
    show Option.map _ (atI [D.int 0, D.int u] r) = _
    rw [f1]; rfl
  have v10 : ∀ S : Store, eVar 10 [some (.ref 0), e1, e2, e3, e4, some (.int wd), some (.ref 1), z7, some (.ref (R.length + 2)), z9, some (.int lo), z11, z12] S = some (.int lo, S) := fun S => rfl
  unfold law_small_b1
  rw [seq_nx s1, sExp_eq, meth_of (d := .ref (R.length + 2)) (cs := bx.map encS) (ds := [encS (lo, lo + 1 + k)]) (r := .non) (S1 := some [.int x1, .int y, .int z1] :: some f :: (R ++ [some (bx.map encS)])) (S2 := some [.int x3, .int y, .int z3] :: some f :: (R ++ [some (bx.map encS)])) (S3 := some [.int x3, .int y, .int z3] :: some f :: (R ++ [some ((bx ++ [(lo, lo + 1 + k)]).map encS)])) (by rw [eVar_eq]; simp [at2]) (by rw [VS.listOf, at2]; rfl) (by
    rw [aCons_eq, eTup_eq, aCons_eq, v10, Option.bind_some, aCons_eq, eOp_eq, eOp_eq, v10, Option.bind_some, eC_eq, Option.bind_some]
    show (((((some (D.int (lo + 1), _) : Option (D × Store)).bind _).bind _).bind _).bind _).bind _ = _
    rw [Option.bind_some, q4]
    rfl) (by
    unfold mAppend
    simp only [at2]
    rw [if_pos (by rw [List.length_map]; omega), put2, List.map_append]
    rfl)]
  rfl
end W12
end
section
set_option Elab.async false
set_option maxRecDepth 10000
set_option linter.all false
set_option maxHeartbeats 4000000
namespace W12
open PySem L2 VS
theorem small_b2 (x y z : Int) (n : Nat) (hn : n ≤ 3) (e2 e3 e4 z7 z8 z9 z10 z11 z12 : Option D) (wd : Int) (h0 : 0 < wd) (h1 : wd ≤ 40) (bs : List (List St2)) (hbs : bs.length ≤ 100) (R : Store) : ∃ (b : List St2) (x' z' : Int) (R' : Store) (y8 y9 y10 : Option D), Sm n wd b ∧
    law_small_b2 [some (.ref 0), some (.int n), e2, e3, e4, some (.int wd), some (.ref 1), z7, z8, z9, z10, z11, z12] (some [.int x, .int y, .int z] :: some (bs.map encB) :: R) = some (.nx, [some (.ref 0), some (.int n), e2, e3, e4, some (.int wd), some (.ref 1), z7, y8, y9, y10, z11, z12], some [.int x', .int y, .int z'] :: some ((bs ++ [b]).map encB) :: R') := by
  have s1 : (sSet 8 (eSto aNil)) [some (.ref 0), some (.int n), e2, e3, e4, some (.int wd), some (.ref 1), z7, z8, z9, z10, z11, z12] (some [.int x, .int y, .int z] :: some (bs.map encB) :: R) = some (.nx, [some (.ref 0), some (.int n), e2, e3, e4, some (.int wd), some (.ref 1), z7, some (.ref (R.length + 2)), z9, z10, z11, z12], some [.int x, .int y, .int z] :: some (bs.map encB) :: (R ++ [some (([] : List St2).map encS)])) := rfl
  have e : iRange1 (aCons (eVar 1) aNil) [some (.ref 0), some (.int n), e2, e3, e4, some (.int wd), some (.ref 1), z7, some (.ref (R.length + 2)), z9, z10, z11, z12] (some [.int x, .int y, .int z] :: some (bs.map encB) :: (R ++ [some (([] : List St2).map encS)])) = some ((upD 0 n, []), some [.int x, .int y, .int z] :: some (bs.map encB) :: (R ++ [some (([] : List St2).map encS)])) := range1 _ rfl (by simp) (by omega) (by omega)
  obtain ⟨env', S', e5, bx, x', z', y9, y10, he, hS, hl, hb⟩ := loop_all (w := []) (g := Pat.sem (.nm 9)) (b := law_small_b1) (ds := upD 0 n) (env := [some (.ref 0), some (.int n), e2, e3, e4, some (.int wd), some (.ref 1), z7, some (.ref (R.length + 2)), z9, z10, z11, z12]) (S := some [.int x, .int y, .int z] :: some (bs.map encB) :: (R ++ [some (([] : List St2).map encS)]))
    (fun i env S => ∃ (bx : List St2) (x' z' : Int) (y9 y10 : Option D), env = [some (.ref 0), some (.int n), e2, e3, e4, some (.int wd), some (.ref 1), z7, some (.ref (R.length + 2)), y9, y10, z11, z12] ∧ S = some [.int x', .int y, .int z'] :: some (bs.map encB) :: (R ++ [some (bx.map encS)]) ∧ bx.length = min i n ∧ ∀ p ∈ bx, 0 ≤ p.1 ∧ p.1 < p.2 ∧ p.2 ≤ wd)
    ⟨[], x, z, z9, z10, rfl, rfl, by simp, fun p h => by cases h⟩ (fun i env S _ => by simp) (fun i d env S hd q => by
      obtain ⟨bx, x', z', y9, y10, he, hS, hl, hb⟩ := q
      obtain ⟨hi, rfl⟩ := upD_get hd
      subst he hS
      obtain ⟨p, x2, z2, hp, e6⟩ := small_b1 x' y z' (some (.int n)) e2 e3 e4 z7 (some (.int (0 + i))) y10 z11 z12 wd h0 h1 (bs.map encB) R bx (by omega)
      refine ⟨_, pat_nm _ _ _, _, _, e6, bx ++ [p], x2, z2, _, _, rfl, rfl, by simp; omega, fun q hq => ?_⟩
      rcases List.mem_append.mp hq with h | h
      · exact hb q h
      · rw [List.mem_singleton.mp h]; exact hp)
  rw [upD_len, Nat.min_self] at hl
  subst he hS
  have l1 : law_small_l1 [some (.ref 0), some (.int n), e2, e3, e4, some (.int wd), some (.ref 1), z7, some (.ref (R.length + 2)), z9, z10, z11, z12] (some [.int x, .int y, .int z] :: some (bs.map encB) :: (R ++ [some (([] : List St2).map encS)])) = some (.nx, [some (.ref 0), some (.int n), e2, e3, e4, some (.int wd), some (.ref 1), z7, some (.ref (R.length + 2)), y9, y10, z11, z12], some [.int x', .int y, .int z'] :: some (bs.map encB) :: (R ++ [some (bx.map encS)])) := by
    unfold law_small_l1
    rw [sFor_eq, e]
    exact e5
  refine ⟨bx, x', z', R ++ [some (bx.map encS)], some (.ref (R.length + 2)), y9, y10, ⟨hl, hb⟩, ?_⟩
  unfold law_small_b2
  rw [seq_nx s1, seq_nx l1, sExp_eq, meth_of (d := .ref 1) (cs := bs.map encB) (ds := [encB bx]) (r := .non) (S1 := some [.int x', .int y, .int z'] :: some (bs.map encB) :: (R ++ [some (bx.map encS)])) (S2 := some [.int x', .int y, .int z'] :: some (bs.map encB) :: (R ++ [some (bx.map encS)])) (S3 := some [.int x', .int y, .int z'] :: some ((bs ++ [bx]).map encB) :: (R ++ [some (bx.map encS)])) rfl rfl (by
    have v8 : eVar 8 [some (.ref 0), some (.int n), e2, e3, e4, some (.int wd), some (.ref 1), z7, some (.ref (R.length + 2)), y9, y10, z11, z12] (some [.int x', .int y, .int z'] :: some (bs.map encB) :: (R ++ [some (bx.map encS)])) = some (.ref (R.length + 2), some [.int x', .int y, .int z'] :: some (bs.map encB) :: (R ++ [some (bx.map encS)])) := by rw [eVar_eq]; simp [at2]
    rw [aCons_eq, eCB_eq, aCons_eq, v8]
    simp [aNil_eq, bTup, seqOf, VS.listOf, at2, encB]) (by
    show (if (bs.map encB).length < 1000000 then some (D.non, some [.int x', .int y, .int z'] :: some (bs.map encB ++ [encB bx]) :: (R ++ [some (bx.map encS)])) else none) = _
    rw [if_pos (by rw [List.length_map]; omega), List.map_append]
    rfl)]
  rfl
theorem small_l2 (x y z : Int) (n c : Nat) (hn : n ≤ 3) (hc : c ≤ 20) (e2 e3 : Option D) (wd : Int) (h0 : 0 < wd) (h1 : wd ≤ 40) : ∃ (bs : List (List St2)) (x' z' : Int) (R' : Store) (y7 y8 y9 y10 : Option D), bs.length = c ∧ (∀ b ∈ bs, Sm n wd b) ∧
    law_small_l2 [some (.ref 0), some (.int n), e2, e3, some (.int c), some (.int wd), some (.ref 1), none, none, none, none, none, none] [some [.int x, .int y, .int z], some []] = some (.nx, [some (.ref 0), some (.int n), e2, e3, some (.int c), some (.int wd), some (.ref 1), y7, y8, y9, y10, none, none], some [.int x', .int y, .int z'] :: some (bs.map encB) :: R') := by
  have e : iRange1 (aCons (eVar 4) aNil) [some (.ref 0), some (.int n), e2, e3, some (.int c), some (.int wd), some (.ref 1), none, none, none, none, none, none] [some [.int x, .int y, .int z], some []] = some ((upD 0 c, []), [some [.int x, .int y, .int z], some []]) := range1 _ rfl (by simp) (by omega) (by omega)
  obtain ⟨env', S', e5, bs, x', z', R', y7, y8, y9, y10, he, hS, hl, hb⟩ := loop_all (w := []) (g := Pat.sem (.nm 7)) (b := law_small_b2) (ds := upD 0 c) (env := [some (.ref 0), some (.int n), e2, e3, some (.int c), some (.int wd), some (.ref 1), none, none, none, none, none, none]) (S := [some [.int x, .int y, .int z], some []])
    (fun i env S => ∃ (bs : List (List St2)) (x' z' : Int) (R' : Store) (y7 y8 y9 y10 : Option D), env = [some (.ref 0), some (.int n), e2, e3, some (.int c), some (.int wd), some (.ref 1), y7, y8, y9, y10, none, none] ∧ S = some [.int x', .int y, .int z'] :: some (bs.map encB) :: R' ∧ bs.length = min i c ∧ ∀ b ∈ bs, Sm n wd b)
    ⟨[], x, z, [], none, none, none, none, rfl, rfl, by simp, fun p h => by cases h⟩ (fun i env S _ => by simp) (fun i d env S hd q => by
      obtain ⟨bs, x', z', R', y7, y8, y9, y10, he, hS, hl, hb⟩ := q
      obtain ⟨hi, rfl⟩ := upD_get hd
      subst he hS
      obtain ⟨b, x2, z2, R2, w8, w9, w10, hb2, e6⟩ := small_b2 x' y z' n hn e2 e3 (some (.int c)) (some (.int (0 + i))) y8 y9 y10 none none wd h0 h1 bs (by omega) R'
      refine ⟨_, pat_nm _ _ _, _, _, e6, bs ++ [b], x2, z2, R2, _, _, _, _, rfl, rfl, by simp; omega, fun q hq => ?_⟩
      rcases List.mem_append.mp hq with h | h
      · exact hb q h
      · rw [List.mem_singleton.mp h]; exact hb2)
  rw [upD_len, Nat.min_self] at hl
  subst he hS
  refine ⟨bs, x', z', R', y7, y8, y9, y10, hl, hb, ?_⟩
  unfold law_small_l2
  rw [sFor_eq, e]
  exact e5
end W12
end
section
set_option Elab.async false
set_option maxRecDepth 10000
set_option linter.all false
set_option maxHeartbeats 4000000
namespace W12
open PySem L2 VS
theorem cut_few {α : Type} {F : α → D} (bs : List α) {r : Int} (h0 : 0 ≤ r) : ∃ cs : List α, cut (bs.map F) none (some r) = cs.map F ∧ (cs.length : Int) ≤ r ∧ ∀ c ∈ cs, c ∈ bs := by
  unfold cut
  rw [← List.map_drop, ← List.map_take]
  refine ⟨_, rfl, ?_, fun c hc => List.mem_of_mem_drop (List.mem_of_mem_take hc)⟩
  rw [List.length_take, List.length_map]
  have h1 : HT.sIx bs.length 0 none = 0 := rfl
  have h2 : HT.sIx bs.length bs.length (some r) ≤ r.toNat := by
    unfold HT.sIx
    simp only
    split <;> omega
  omega
def Hold (F : D) (T : Store) (bs : List (List St2)) : Prop := F = .lst true (bs.map encB) ∨ ∃ j, F = .ref (j + 1) ∧ T[j]? = some (some (bs.map encB))
theorem tAnd_dec {a b : TSem} {env : VS.Env} {S : Store} {p q : Prop} [Decidable p] [Decidable q] (h1 : a env S = some (decide p, S)) (h2 : b env S = some (decide q, S)) : tAnd a b env S = some (decide (p ∧ q), S) := by
  rw [tAnd_eq, h1, Option.bind_some]
  by_cases h : p
  · simp [h, h2]
  · simp [h]
theorem small_s5 (x y z : Int) (n : Nat) (e2 e3 y7 y8 y9 y10 y12 : Option D) (c : Nat) (hc : c ≤ 20) (wd kind : Int) (bs : List (List St2)) (hl : bs.length = c) (R : Store) (P : List St2 → Prop) (hP : ∀ b ∈ bs, P b) : ∃ (bs' : List (List St2)) (x' z' : Int), bs'.length = c ∧ (∀ b ∈ bs', P b) ∧
    (sIf (tAnd (tVal (eOp (oEq false) (eVar 11) (eC (.int 1)))) (tVal (eOp oGt (eVar 4) (eC (.int 1))))) (sSetIx (eOp oIx (eVar 6) (eCallM sem_law_take (aCons (eVar 0) (aCons (eOp oSub (eVar 4) (eC (.int 1))) aNil)))) (eVar 6) (eUn oNeg (eC (.int 1)))) sNil) [some (.ref 0), some (.int n), e2, e3, some (.int c), some (.int wd), some (.ref 1), y7, y8, y9, y10, some (.int kind), y12] (some [.int x, .int y, .int z] :: some (bs.map encB) :: R) =
    some (.nx, [some (.ref 0), some (.int n), e2, e3, some (.int c), some (.int wd), some (.ref 1), y7, y8, y9, y10, some (.int kind), y12], some [.int x', .int y, .int z'] :: some (bs'.map encB) :: R) := by
  have k1 : tVal (eOp (oEq false) (eVar 11) (eC (.int 1))) [some (.ref 0), some (.int n), e2, e3, some (.int c), some (.int wd), some (.ref 1), y7, y8, y9, y10, some (.int kind), y12] (some [.int x, .int y, .int z] :: some (bs.map encB) :: R) = some (decide (kind = 1), some [.int x, .int y, .int z] :: some (bs.map encB) :: R) := by simp [eVar_eq, eC_eq, eOp_eq, tVal_eq, oEq, -List.map_map, -Option.map_bind]
  have k2 : tVal (eOp oGt (eVar 4) (eC (.int 1))) [some (.ref 0), some (.int n), e2, e3, some (.int c), some (.int wd), some (.ref 1), y7, y8, y9, y10, some (.int kind), y12] (some [.int x, .int y, .int z] :: some (bs.map encB) :: R) = some (decide (1 < (c : Int)), some [.int x, .int y, .int z] :: some (bs.map encB) :: R) := rfl
  have ts : tAnd (tVal (eOp (oEq false) (eVar 11) (eC (.int 1)))) (tVal (eOp oGt (eVar 4) (eC (.int 1)))) [some (.ref 0), some (.int n), e2, e3, some (.int c), some (.int wd), some (.ref 1), y7, y8, y9, y10, some (.int kind), y12] (some [.int x, .int y, .int z] :: some (bs.map encB) :: R) = some (decide (kind = 1 ∧ 1 < (c : Int)), some [.int x, .int y, .int z] :: some (bs.map encB) :: R) := tAnd_dec k1 k2
  by_cases h : kind = 1 ∧ 1 < (c : Int)
  · rw [decide_eq_true h] at ts
    obtain ⟨r, x', z', t1, r0, r1⟩ := take_ok x y z ((c : Int) - 1) (by omega) (by omega)
    have hr : r.toNat < bs.length := by omega
    refine ⟨bs.set (c - 1) bs[r.toNat], x', z', by rw [List.length_set]; exact hl, fun b hb => ?_, ?_⟩
    · rcases List.mem_or_eq_of_mem_set hb with q | q
      · exact hP b q
      · rw [q]; exact hP _ (List.getElem_mem hr)
    · have q1 : eOp oIx (eVar 6) (eCallM sem_law_take (aCons (eVar 0) (aCons (eOp oSub (eVar 4) (eC (.int 1))) aNil))) [some (.ref 0), some (.int n), e2, e3, some (.int c), some (.int wd), some (.ref 1), y7, y8, y9, y10, some (.int kind), y12] (some [.int x, .int y, .int z] :: some (bs.map encB) :: R) = some (encB bs[r.toNat], some [.int x', .int y, .int z'] :: some (bs.map encB) :: R) := by
        have v6 : eVar 6 [some (.ref 0), some (.int n), e2, e3, some (.int c), some (.int wd), some (.ref 1), y7, y8, y9, y10, some (.int kind), y12] (some [.int x, .int y, .int z] :: some (bs.map encB) :: R) = some (.ref 1, some [.int x, .int y, .int z] :: some (bs.map encB) :: R) := rfl
        rw [eOp_eq, v6, Option.bind_some, take_at t1 rfl rfl, Option.bind_some]
        show Option.map _ (atI (bs.map encB) r) = _
        rw [atI_ge (j := r.toNat) (by omega) (by simpa using hr)]
        simp
      rw [if_yes ts, sSetIx_eq, q1]
      show (ixN (bs.map encB).length (-1)).bind _ = _
      have hx : ixN (bs.map encB).length (-1) = some (c - 1) := by
        rw [List.length_map, hl, show c = (c - 1) + 1 by omega]; exact ixN_last
      rw [hx]
      show some (Fl.nx, _, some [.int x', .int y, .int z'] :: some ((bs.map encB).set (c - 1) (encB bs[r.toNat])) :: R) = _
      rw [← List.map_set]
  · rw [decide_eq_false h] at ts
    exact ⟨bs, x, z, hl, hP, by rw [if_no ts]; rfl⟩
theorem ring_ok : ∀ b ∈ [[((0 : Int), (3 : Int)), (0, 1)], [(0, 3), (2, 3)], [(0, 1), (0, 3)], [(2, 3), (0, 3)]], Sm 2 3 b := by
  intro b hb
  simp only [List.mem_cons, List.not_mem_nil, or_false] at hb
  rcases hb with rfl | rfl | rfl | rfl <;> exact ⟨rfl, by decide⟩
theorem small_s6 (x y z : Int) (n most : Nat) (h4 : 4 ≤ most) (h20 : most ≤ 20) (e3 y7 y8 y9 y10 y12 : Option D) (c : Nat) (wd kind : Int) (bs : List (List St2)) (hl : bs.length ≤ most) (R : Store) (m : Int) (hm : 3 ≤ m) (hP : ∀ b ∈ bs, Sm n m b) : ∃ (bs' : List (List St2)) (x' z' : Int) (F : D) (w12 : Option D), Hold F (some (bs.map encB) :: R) bs' ∧ bs'.length ≤ most ∧ (∀ b ∈ bs', Sm n m b) ∧
    (sIf (tAnd (tVal (eOp (oEq false) (eVar 1) (eC (.int 2)))) (tVal (eOp (oEq false) (eVar 11) (eC (.int 2)))))
    (sSeq (sSet 12 (eFrz (aCons (eTup (aCons (eTup (aCons (eC (.int 0)) (aCons (eC (.int 3)) aNil))) (aCons (eTup (aCons (eC (.int 0)) (aCons (eC (.int 1)) aNil))) aNil))) (aCons (eTup (aCons (eTup (aCons (eC (.int 0)) (aCons (eC (.int 3)) aNil))) (aCons (eTup (aCons (eC (.int 2)) (aCons (eC (.int 3)) aNil))) aNil))) (aCons (eTup (aCons (eTup (aCons (eC (.int 0)) (aCons (eC (.int 1)) aNil))) (aCons (eTup (aCons (eC (.int 0)) (aCons (eC (.int 3)) aNil))) aNil))) (aCons (eTup (aCons (eTup (aCons (eC (.int 2)) (aCons (eC (.int 3)) aNil))) (aCons (eTup (aCons (eC (.int 0)) (aCons (eC (.int 3)) aNil))) aNil))) aNil))))))
    (sSet 6 (eOp oAdd (eVar 12) (eSl oSl (eVar 6) oNone (oSome (eCallM sem_law_take (aCons (eVar 0) (aCons (eOp oSub (eVar 2) (eC (.int 3))) aNil))))))))
    sNil) [some (.ref 0), some (.int n), some (.int most), e3, some (.int c), some (.int wd), some (.ref 1), y7, y8, y9, y10, some (.int kind), y12] (some [.int x, .int y, .int z] :: some (bs.map encB) :: R) =
    some (.nx, [some (.ref 0), some (.int n), some (.int most), e3, some (.int c), some (.int wd), some F, y7, y8, y9, y10, some (.int kind), w12], some [.int x', .int y, .int z'] :: some (bs.map encB) :: R) := by
  have k1 : tVal (eOp (oEq false) (eVar 1) (eC (.int 2))) [some (.ref 0), some (.int n), some (.int most), e3, some (.int c), some (.int wd), some (.ref 1), y7, y8, y9, y10, some (.int kind), y12] (some [.int x, .int y, .int z] :: some (bs.map encB) :: R) = some (decide ((n : Int) = 2), some [.int x, .int y, .int z] :: some (bs.map encB) :: R) := by simp [eVar_eq, eC_eq, eOp_eq, tVal_eq, oEq, -List.map_map, -Option.map_bind]
  have k2 : tVal (eOp (oEq false) (eVar 11) (eC (.int 2))) [some (.ref 0), some (.int n), some (.int most), e3, some (.int c), some (.int wd), some (.ref 1), y7, y8, y9, y10, some (.int kind), y12] (some [.int x, .int y, .int z] :: some (bs.map encB) :: R) = some (decide (kind = 2), some [.int x, .int y, .int z] :: some (bs.map encB) :: R) := by simp [eVar_eq, eC_eq, eOp_eq, tVal_eq, oEq, -List.map_map, -Option.map_bind]
  have ts := tAnd_dec k1 k2
  by_cases h : (n : Int) = 2 ∧ kind = 2
  · rw [decide_eq_true h] at ts
    have hn : n = 2 := by omega
    obtain ⟨r, x', z', t1, r0, r1⟩ := take_ok x y z ((most : Int) - 3) (by omega) (by omega)
    obtain ⟨cs, c1, c2, c3⟩ := cut_few (F := encB) bs r0
    refine ⟨[[((0 : Int), (3 : Int)), (0, 1)], [(0, 3), (2, 3)], [(0, 1), (0, 3)], [(2, 3), (0, 3)]] ++ cs, x', z', .lst true (([[((0 : Int), (3 : Int)), (0, 1)], [(0, 3), (2, 3)], [(0, 1), (0, 3)], [(2, 3), (0, 3)]] ++ cs).map encB), some (.lst true ([[((0 : Int), (3 : Int)), (0, 1)], [(0, 3), (2, 3)], [(0, 1), (0, 3)], [(2, 3), (0, 3)]].map encB)), .inl rfl, by simp; omega, fun b hb => ?_, ?_⟩
    · rcases List.mem_append.mp hb with q | q
      · have := ring_ok b q
        exact ⟨by rw [hn]; exact this.len, fun p hp => by have := this.all p hp; omega⟩
      · exact hP b (c3 b q)
    · rw [if_yes ts]
      have s1 : ∀ a : ASem, (a = (aCons (eTup (aCons (eTup (aCons (eC (.int 0)) (aCons (eC (.int 3)) aNil))) (aCons (eTup (aCons (eC (.int 0)) (aCons (eC (.int 1)) aNil))) aNil))) (aCons (eTup (aCons (eTup (aCons (eC (.int 0)) (aCons (eC (.int 3)) aNil))) (aCons (eTup (aCons (eC (.int 2)) (aCons (eC (.int 3)) aNil))) aNil))) (aCons (eTup (aCons (eTup (aCons (eC (.int 0)) (aCons (eC (.int 1)) aNil))) (aCons (eTup (aCons (eC (.int 0)) (aCons (eC (.int 3)) aNil))) aNil))) (aCons (eTup (aCons (eTup (aCons (eC (.int 2)) (aCons (eC (.int 3)) aNil))) (aCons (eTup (aCons (eC (.int 0)) (aCons (eC (.int 3)) aNil))) aNil))) aNil))))) → (sSet 12 (eFrz a)) [some (.ref 0), some (.int n), some (.int most), e3, some (.int c), some (.int wd), some (.ref 1), y7, y8, y9, y10, some (.int kind), y12] (some [.int x, .int y, .int z] :: some (bs.map encB) :: R) = some (.nx, [some (.ref 0), some (.int n), some (.int most), e3, some (.int c), some (.int wd), some (.ref 1), y7, y8, y9, y10, some (.int kind), some (.lst true ([[((0 : Int), (3 : Int)), (0, 1)], [(0, 3), (2, 3)], [(0, 1), (0, 3)], [(2, 3), (0, 3)]].map encB))], some [.int x, .int y, .int z] :: some (bs.map encB) :: R) := fun a ha => by rw [ha]; rfl
      rw [seq_nx (s1 _ rfl), sSet_eq, eOp_eq]
      have v12 : ∀ (g : Option D) (S : Store), eVar 12 [some (.ref 0), some (.int n), some (.int most), e3, some (.int c), some (.int wd), some (.ref 1), y7, y8, y9, y10, some (.int kind), some (.lst true ([[((0 : Int), (3 : Int)), (0, 1)], [(0, 3), (2, 3)], [(0, 1), (0, 3)], [(2, 3), (0, 3)]].map encB))] S = some (.lst true ([[((0 : Int), (3 : Int)), (0, 1)], [(0, 3), (2, 3)], [(0, 1), (0, 3)], [(2, 3), (0, 3)]].map encB), S) := fun _ S => rfl
      have v6 : ∀ (S : Store), S[1]? = some (some (bs.map encB)) → eVar 6 [some (.ref 0), some (.int n), some (.int most), e3, some (.int c), some (.int wd), some (.ref 1), y7, y8, y9, y10, some (.int kind), some (.lst true ([[((0 : Int), (3 : Int)), (0, 1)], [(0, 3), (2, 3)], [(0, 1), (0, 3)], [(2, 3), (0, 3)]].map encB))] S = some (.ref 1, S) := fun S _ => rfl
      have q1 : eSl oSl (eVar 6) oNone (oSome (eCallM sem_law_take (aCons (eVar 0) (aCons (eOp oSub (eVar 2) (eC (.int 3))) aNil)))) [some (.ref 0), some (.int n), some (.int most), e3, some (.int c), some (.int wd), some (.ref 1), y7, y8, y9, y10, some (.int kind), some (.lst true ([[((0 : Int), (3 : Int)), (0, 1)], [(0, 3), (2, 3)], [(0, 1), (0, 3)], [(2, 3), (0, 3)]].map encB))] (some [.int x, .int y, .int z] :: some (bs.map encB) :: R) = some (.lst true (cs.map encB), some [.int x', .int y, .int z'] :: some (bs.map encB) :: R) := by
        rw [eSl_eq, v6 _ rfl, Option.bind_some, oNone_eq, Option.bind_some, oSome_eq, take_at t1 rfl rfl]
        show (some (D.lst true (cut (bs.map encB) none (some r)), some [.int x', .int y, .int z'] :: some (bs.map encB) :: R) : Option (D × Store)) = _
        rw [c1]
      rw [v12 none, Option.bind_some, q1, Option.bind_some]
      show (Option.map _ (if ([[((0 : Int), (3 : Int)), (0, 1)], [(0, 3), (2, 3)], [(0, 1), (0, 3)], [(2, 3), (0, 3)]].map encB).length + (cs.map encB).length ≤ 1000000 then some (D.lst true ([[((0 : Int), (3 : Int)), (0, 1)], [(0, 3), (2, 3)], [(0, 1), (0, 3)], [(2, 3), (0, 3)]].map encB ++ cs.map encB)) else none)).bind _ = _
      rw [if_pos (by simp; omega), ← List.map_append]
      rfl
  · rw [decide_eq_false h] at ts
    exact ⟨bs, x, z, .ref 1, y12, .inr ⟨0, rfl, rfl⟩, hl, hP, by rw [if_no ts]; rfl⟩
end W12
end
section
set_option Elab.async false
set_option maxRecDepth 10000
set_option linter.all false
set_option maxHeartbeats 4000000
namespace W12
open PySem L2 VS
def lat (i : Nat) : List St2 := [(((i : Int) * 2) % 3, ((i : Int) * 2) % 3 + 1), (((i : Int) * 2) / 3, ((i : Int) * 2) / 3 + 1)]
theorem lat_ok {i : Nat} {m : Int} (hi : i < 10) (hm : 8 ≤ m) : Sm 2 m (lat i) := by
  refine ⟨rfl, fun p hp => ?_⟩
  unfold lat at hp
  simp only [List.mem_cons, List.not_mem_nil, or_false] at hp
  rcases hp with rfl | rfl
  · simp only; omega
  · simp only; omega
theorem small_c1 (r : VS.Env) (S : Store) (most : Nat) (hm : most ≤ 20) (h : r[2]? = some (some (.int most))) : law_small_c1 r S = some ((List.range most).map (fun i => encB (lat i)), S) := by
  have e : iRange3 (aCons (eC (.int 0)) (aCons (eOp oMul (eC (.int 2)) (eVar 2)) (aCons (eC (.int 2)) aNil))) r S = some ((upW 0 most, []), S) := by
    have a1 : aCons (eC (.int 0)) (aCons (eOp oMul (eC (.int 2)) (eVar 2)) (aCons (eC (.int 2)) aNil)) r S = some ([.int 0, .int (2 * most), .int 2], S) := by simp [eVar_eq, eC_eq, eOp_eq, aNil_eq, aCons_eq, cMul, oMul, VS.listOf, -List.map_map, -Option.map_bind, h]
    have e2 : many2 0 (2 * (most : Int)) = most := by unfold many2; omega
    rw [iRange3_eq, a1, Option.bind_some]
    show (if (-1000000 ≤ (0 : Int) ∧ (0 : Int) ≤ 1000000) ∧ -1000000 ≤ 2 * (most : Int) ∧ 2 * (most : Int) ≤ 1000000 then some ((upW 0 (many2 0 (2 * (most : Int))), ([] : List (Nat × List D))), S) else none) = _
    rw [if_pos ⟨⟨by decide, by decide⟩, by omega, by omega⟩, e2]
  unfold law_small_c1 aComp
  rw [e]
  simp only [Option.bind_some]
  unfold upW
  rw [comp_of (by simp) (fun i : Nat => D.int (0 + (i : Nat) * 2)) (fun i => encB (lat i)) (List.range most) (by simp; omega)]
  intro i _
  exact ⟨_, pat_nm _ _ _, by simp [eVar_eq, eC_eq, eOp_eq, aNil_eq, aCons_eq, eTup_eq, capE, oI, cDiv, cMod, oAdd, oDiv, oMod, VS.listOf, List.replicate_succ, -List.map_map, -Option.map_bind, encB, encS, lat]⟩
theorem small_s7 (p : List D) (n most : Nat) (h20 : most ≤ 20) (h2 : n = 2 → most ≤ 10) (e3 y7 y8 y9 y10 y12 : Option D) (c : Nat) (wd kind : Int) (F : D) (T : Store) (bs : List (List St2)) (hF : Hold F T bs) (hl : bs.length ≤ most) (m : Int) (hm : 8 ≤ m) (hP : ∀ b ∈ bs, Sm n m b) : ∃ (bs' : List (List St2)) (F' : D) (T' : Store), Hold F' T' bs' ∧ bs'.length ≤ most ∧ (∀ b ∈ bs', Sm n m b) ∧
    (sIf (tAnd (tVal (eOp (oEq false) (eVar 1) (eC (.int 2)))) (tVal (eOp (oEq false) (eVar 11) (eC (.int 3))))) (sSet 6 (eSto law_small_c1)) sNil) [some (.ref 0), some (.int n), some (.int most), e3, some (.int c), some (.int wd), some F, y7, y8, y9, y10, some (.int kind), y12] (some p :: T) =
    some (.nx, [some (.ref 0), some (.int n), some (.int most), e3, some (.int c), some (.int wd), some F', y7, y8, y9, y10, some (.int kind), y12], some p :: T') := by
  have k1 : tVal (eOp (oEq false) (eVar 1) (eC (.int 2))) [some (.ref 0), some (.int n), some (.int most), e3, some (.int c), some (.int wd), some F, y7, y8, y9, y10, some (.int kind), y12] (some p :: T) = some (decide ((n : Int) = 2), some p :: T) := by simp [eVar_eq, eC_eq, eOp_eq, tVal_eq, oEq, -List.map_map, -Option.map_bind]
  have k2 : tVal (eOp (oEq false) (eVar 11) (eC (.int 3))) [some (.ref 0), some (.int n), some (.int most), e3, some (.int c), some (.int wd), some F, y7, y8, y9, y10, some (.int kind), y12] (some p :: T) = some (decide (kind = 3), some p :: T) := by simp [eVar_eq, eC_eq, eOp_eq, tVal_eq, oEq, -List.map_map, -Option.map_bind]
  have ts := tAnd_dec k1 k2
  by_cases h : (n : Int) = 2 ∧ kind = 3
  · rw [decide_eq_true h] at ts
    have hn : n = 2 := by omega
    have c1 := small_c1 [some (.ref 0), some (.int n), some (.int most), e3, some (.int c), some (.int wd), some F, y7, y8, y9, y10, some (.int kind), y12] (some p :: T) most h20 rfl
    refine ⟨(List.range most).map lat, .ref (T.length + 1), T ++ [some (((List.range most).map lat).map encB)], .inr ⟨T.length, rfl, end0 T _ []⟩, by simp, fun b hb => ?_, ?_⟩
    · obtain ⟨i, hi, rfl⟩ := List.mem_map.mp hb
      have := List.mem_range.mp hi
      have := h2 hn
      rw [hn]
      exact lat_ok (by omega) hm
    · rw [if_yes ts, sSet_eq, eSto_eq, c1, List.map_map]
      rfl
  · rw [decide_eq_false h] at ts
    exact ⟨bs, F, T, hF, hl, hP, by rw [if_no ts]; rfl⟩
theorem small_s8 (x y z : Int) (n most many : Nat) (hn : n ≤ 3) (h20 : most ≤ 20) (hM : 8 < many → 2 * most ≤ many) (y7 y8 y9 y10 y12 : Option D) (c : Nat) (hc : c ≤ most) (wd kind : Int) (F : D) (T : Store) (bs : List (List St2)) (hF : Hold F T bs) (hl : bs.length ≤ most) (hP : ∀ b ∈ bs, Sm n many b) : ∃ (bs' : List (List St2)) (F' : D) (T' : Store) (x' z' : Int), Hold F' T' bs' ∧ bs'.length ≤ most ∧ (∀ b ∈ bs', Sm n many b) ∧
    (sIf (tAnd (tVal (eOp oGt (eVar 11) (eC (.int 5)))) (tVal (eOp oGt (eVar 3) (eC (.int 8))))) (sSet 6 (eThawM sem_law_unlike (aCons (eVar 0) (aCons (eVar 1) (aCons (eVar 4) aNil))))) sNil) [some (.ref 0), some (.int n), some (.int most), some (.int many), some (.int c), some (.int wd), some F, y7, y8, y9, y10, some (.int kind), y12] (some [.int x, .int y, .int z] :: T) =
    some (.nx, [some (.ref 0), some (.int n), some (.int most), some (.int many), some (.int c), some (.int wd), some F', y7, y8, y9, y10, some (.int kind), y12], some [.int x', .int y, .int z'] :: T') := by
  have k1 : tVal (eOp oGt (eVar 11) (eC (.int 5))) [some (.ref 0), some (.int n), some (.int most), some (.int many), some (.int c), some (.int wd), some F, y7, y8, y9, y10, some (.int kind), y12] (some [.int x, .int y, .int z] :: T) = some (decide (5 < kind), some [.int x, .int y, .int z] :: T) := rfl
  have k2 : tVal (eOp oGt (eVar 3) (eC (.int 8))) [some (.ref 0), some (.int n), some (.int most), some (.int many), some (.int c), some (.int wd), some F, y7, y8, y9, y10, some (.int kind), y12] (some [.int x, .int y, .int z] :: T) = some (decide (8 < (many : Int)), some [.int x, .int y, .int z] :: T) := rfl
  have ts := tAnd_dec k1 k2
  by_cases h : 5 < kind ∧ 8 < (many : Int)
  · rw [decide_eq_true h] at ts
    have hm := hM (by omega)
    obtain ⟨bs', x', z', u1, u2, u3⟩ := unlike_ok x y z n c hn (by omega)
    refine ⟨bs', .ref (T.length + 1), T ++ [some (bs'.map encB)], x', z', .inr ⟨T.length, rfl, end0 T _ []⟩, by omega, fun b hb => ?_, ?_⟩
    · have := u3 b hb
      exact ⟨this.len, fun p hp => by have := this.all p hp; omega⟩
    · have v0 : eVar 0 [some (.ref 0), some (.int n), some (.int most), some (.int many), some (.int c), some (.int wd), some F, y7, y8, y9, y10, some (.int kind), y12] (some [.int x, .int y, .int z] :: T) = some (.ref 0, some [.int x, .int y, .int z] :: T) := rfl
      rw [if_yes ts, sSet_eq, thawM_of (d' := .ref (T.length + 1)) (cs := bs'.map encB) (callM_of (ns := [x, y, z]) (rest := [.int n, .int c]) (es := [.int n, .int c]) (i := 0) (S' := some [.int x, .int y, .int z] :: T) (by rw [aCons_eq, v0]; rfl) rfl (by simp [pureL, pureD]) (by simp [ageL, age]) u1) (by
        show (if flatL (bs'.map encB) = true then some (D.ref (T.length + 1), bs'.map encB) else none) = _
        rw [if_pos (flat_encBs bs')])]
      rfl
  · rw [decide_eq_false h] at ts
    exact ⟨bs, F, T, x, z, hF, hl, hP, by rw [if_no ts]; rfl⟩
end W12
end
section
set_option Elab.async false
set_option maxRecDepth 10000
set_option linter.all false
set_option maxHeartbeats 4000000
namespace W12
open PySem L2 VS
theorem den_hold {F : D} {T : Store} {bs : List (List St2)} (h : Hold F T bs) (p : Option (List D)) : den 1 (p :: T) F = some (.lst true (bs.map encB)) := by
  have hp : pureL (bs.map encB) = true := flatL_pure (flat_encBs bs)
  rcases h with rfl | ⟨j, rfl, h⟩
  · rw [den, pure_denL 1 _ hp]; rfl
  · rw [den, if_neg (by omega)]
    show (match T[j]? with | some (some ds) => if pureL ds = true then some (D.lst true ds) else none | _ => none) = _
    rw [h]
    show (if pureL (bs.map encB) = true then _ else _) = _
    rw [if_pos hp]
theorem small_ok (x y z : Int) (n most many : Nat) (hn : n ≤ 3) (h4 : 4 ≤ most) (h20 : most ≤ 20) (h2 : n = 2 → most ≤ 10) (hm8 : 8 ≤ many) (hm40 : many ≤ 40) (hM : 8 < many → 2 * most ≤ many) : ∃ (bs : List (List St2)) (x' z' : Int), sem_law_small [x, y, z] [.int n, .int most, .int many] = some (.lst true (bs.map encB), [x', y, z']) ∧ bs.length ≤ most ∧ ∀ b ∈ bs, Sm n many b := by
  obtain ⟨r1, x1, z1, e1, p1, p2⟩ := take_ok x y z ((most : Int) + 1) (by omega) (by omega)
  obtain ⟨r2, x2, z2, e2, p3, p4⟩ := take_ok x1 y z1 most (by omega) (by omega)
  obtain ⟨r3, x3, z3, e3, p5, p6⟩ := take_ok x2 y z2 3 (by decide) (by decide)
  obtain ⟨c, f1, hc⟩ : ∃ c : Nat, atI [D.int r1, D.int most, D.int (1 + r2)] r3 = some (.int c) ∧ c ≤ most := by
    have : r3 = 0 ∨ r3 = 1 ∨ r3 = 2 := by omega
    rcases this with rfl | rfl | rfl
    · exact ⟨r1.toNat, by rw [atI_0, Int.toNat_of_nonneg p1], by omega⟩
    · exact ⟨most, by simp, Nat.le_refl _⟩
    · exact ⟨(1 + r2).toNat, by rw [atI_2, Int.toNat_of_nonneg (by omega)], by omega⟩
  obtain ⟨r4, x4, z4, e4, p7, p8⟩ := take_ok x3 y z3 4 (by decide) (by decide)
  obtain ⟨wd, f2, w0, w1⟩ : ∃ wd : Int, atI [D.int 2, D.int 3, D.int 5, D.int many] r4 = some (.int wd) ∧ 0 < wd ∧ wd ≤ many := by
    have : r4 = 0 ∨ r4 = 1 ∨ r4 = 2 ∨ r4 = 3 := by omega
    rcases this with rfl | rfl | rfl | rfl
    · exact ⟨2, by simp, by decide, by omega⟩
    · exact ⟨3, by simp, by decide, by omega⟩
    · exact ⟨5, by simp, by decide, by omega⟩
    · exact ⟨many, by simp, by omega, by omega⟩
  obtain ⟨bs, x5, z5, R5, y7, y8, y9, y10, b1, b2, l2⟩ := small_l2 x4 y z4 n c hn (by omega) (some (.int most)) (some (.int many)) wd w0 (by omega)
  obtain ⟨kind, x6, z6, e6, _, _⟩ := take_ok x5 y z5 8 (by decide) (by decide)
  have b2' : ∀ b ∈ bs, Sm n many b := fun b hb => ⟨(b2 b hb).len, fun p hp => by have := (b2 b hb).all p hp; omega⟩
  obtain ⟨bs5, x7, z7, c1, c2, s5⟩ := small_s5 x6 y z6 n (some (.int most)) (some (.int many)) y7 y8 y9 y10 none c (by omega) wd kind bs b1 R5 (Sm n many) b2'
  obtain ⟨bs6, x8, z8, F6, w12, d0, d1, d2, s6⟩ := small_s6 x7 y z7 n most h4 h20 (some (.int many)) y7 y8 y9 y10 none c wd kind bs5 (by omega) R5 many (by omega) c2
  obtain ⟨bs7, F7, T7, g0, g1, g2, s7⟩ := small_s7 [.int x8, .int y, .int z8] n most h20 h2 (some (.int many)) y7 y8 y9 y10 w12 c wd kind F6 _ bs6 d0 d1 many (by omega) d2
  obtain ⟨bs8, F8, T8, x9, z9, i0, i1, i2, s8⟩ := small_s8 x8 y z8 n most many hn h20 hM y7 y8 y9 y10 w12 c hc wd kind F7 T7 bs7 g0 g1 g2
  refine ⟨bs8, x9, z9, ?_, i1, i2⟩
  have s1 : (sSet 4 (eOp oIx (eFrz (aCons (eCallM sem_law_take (aCons (eVar 0) (aCons (eOp oAdd (eVar 2) (eC (.int 1))) aNil))) (aCons (eVar 2) (aCons (eOp oAdd (eC (.int 1)) (eCallM sem_law_take (aCons (eVar 0) (aCons (eVar 2) aNil)))) aNil)))) (eCallM sem_law_take (aCons (eVar 0) (aCons (eC (.int 3)) aNil))))) [some (.ref 0), some (.int n), some (.int most), some (.int many), none, none, none, none, none, none, none, none, none] [some [.int x, .int y, .int z]] = some (.nx, [some (.ref 0), some (.int n), some (.int most), some (.int many), some (.int c), none, none, none, none, none, none, none, none], [some [.int x3, .int y, .int z3]]) := by
    simp [sSet_eq, eVar_eq, eC_eq, eOp_eq, aNil_eq, aCons_eq, eFrz_eq, eCallM_eq, oAdd, oIx, VS.listOf, seqOf, intsOf, den, denL, age, ageL, pureD, pureL, -List.map_map, -Option.map_bind, e1, e2, e3, f1]
  have s2 : (sSet 5 (eOp oIx (eFrz (aCons (eC (.int 2)) (aCons (eC (.int 3)) (aCons (eC (.int 5)) (aCons (eVar 3) aNil))))) (eCallM sem_law_take (aCons (eVar 0) (aCons (eC (.int 4)) aNil))))) [some (.ref 0), some (.int n), some (.int most), some (.int many), some (.int c), none, none, none, none, none, none, none, none] [some [.int x3, .int y, .int z3]] = some (.nx, [some (.ref 0), some (.int n), some (.int most), some (.int many), some (.int c), some (.int wd), none, none, none, none, none, none, none], [some [.int x4, .int y, .int z4]]) := by
    simp [sSet_eq, eVar_eq, eC_eq, eOp_eq, aNil_eq, aCons_eq, eFrz_eq, eCallM_eq, oIx, VS.listOf, seqOf, intsOf, den, denL, age, ageL, pureD, pureL, -List.map_map, -Option.map_bind, e4, f2]
  have s3 : (sSet 6 (eSto aNil)) [some (.ref 0), some (.int n), some (.int most), some (.int many), some (.int c), some (.int wd), none, none, none, none, none, none, none] [some [.int x4, .int y, .int z4]] = some (.nx, [some (.ref 0), some (.int n), some (.int most), some (.int many), some (.int c), some (.int wd), some (.ref 1), none, none, none, none, none, none], [some [.int x4, .int y, .int z4], some []]) := rfl
  have s4 : (sSet 11 (eCallM sem_law_take (aCons (eVar 0) (aCons (eC (.int 8)) aNil)))) [some (.ref 0), some (.int n), some (.int most), some (.int many), some (.int c), some (.int wd), some (.ref 1), y7, y8, y9, y10, none, none] (some [.int x5, .int y, .int z5] :: some (bs.map encB) :: R5) = some (.nx, [some (.ref 0), some (.int n), some (.int most), some (.int many), some (.int c), some (.int wd), some (.ref 1), y7, y8, y9, y10, some (.int kind), none], some [.int x6, .int y, .int z6] :: some (bs.map encB) :: R5) := by
    rw [sSet_eq, take_at e6 rfl rfl]; rfl
  unfold sem_law_small
  rw [runM_eq]
  simp only [List.length_cons, List.length_nil, List.map_cons, List.map_nil, Nat.reduceAdd, Nat.reduceSub, List.replicate_succ, List.replicate_zero, List.cons_append, List.nil_append, if_true]
  unfold f_law_small
  rw [seq_nx s1, seq_nx s2, seq_nx s3, seq_nx l2, seq_nx s4, seq_nx s5, seq_nx s6, seq_nx s7, seq_nx s8, sRet_eq]
  have v6 : eVar 6 [some (.ref 0), some (.int n), some (.int most), some (.int many), some (.int c), some (.int wd), some F8, y7, y8, y9, y10, some (.int kind), w12] (some [.int x9, .int y, .int z9] :: T8) = some (F8, some [.int x9, .int y, .int z9] :: T8) := rfl
  rw [v6, Option.bind_some]
  show ((intsOf ([x9, y, z9].map D.int)).bind fun ms => (den 1 (some [.int x9, .int y, .int z9] :: T8) F8).map fun r => (r, ms)) = _
  rw [intsOf_map, den_hold i0]; rfl
end W12
end
section
set_option Elab.async false
set_option maxRecDepth 10000
set_option linter.all false
set_option maxHeartbeats 4000000
namespace W12
open PySem L2 VS
def encI (ms : List Int) : D := .lst true (ms.map .int)
def placed (mss : List (List Int)) (b : List St2) : List St2 := (mss.zip b).map fun q => (q.1.getD q.2.1.toNat 0, q.1.getD q.2.2.toNat 0)
theorem zip_enc {α β : Type} {F : α → D} {G : β → D} : ∀ (as : List α) (bs : List β), zipD (as.map F) (bs.map G) = (as.zip bs).map fun q => .tup [F q.1, G q.2]
  | [], _ => rfl
  | _ :: _, [] => rfl
  | a :: r, b :: s => by rw [List.map_cons, List.map_cons, zipD, zip_enc r s]; rfl
theorem heap_c1 (x y z : Int) (n many : Nat) (most sm : D) (hn : n ≤ 3) (h0 : 8 ≤ many) (h1 : many ≤ 40) : ∃ (mss : List (List Int)) (x' z' : Int), law_heap_c1 [some (.ref 0), some (.int n), some most, some (.int many), some sm, none, none, none] [some [.int x, .int y, .int z]] = some (mss.map encI, [some [.int x', .int y, .int z']]) ∧ mss.length = n ∧ ∀ ms ∈ mss, Mk many ms := by
  have e : iRange1 (aCons (eVar 1) aNil) [some (.ref 0), some (.int n), some most, some (.int many), some sm, none, none, none] [some [.int x, .int y, .int z]] = some ((upD 0 n, []), [some [.int x, .int y, .int z]]) := range1 _ rfl (by simp) (by omega) (by omega)
  unfold law_heap_c1 aComp
  rw [e]
  simp only [Option.bind_some]
  obtain ⟨ys, S', e2, mss, x', z', hy, hS, hl, hb⟩ := comp_inv (w := []) (e0 := capE 1 [0, 3] [some (.ref 0), some (.int n), some most, some (.int many), some sm, none, none, none]) (g := Pat.sem (.nm 0)) (ds := upD 0 n) (S := [some [.int x, .int y, .int z]])
    (f := (eCallM sem_law_marks (aCons (eVar 1) (aCons (eVar 2) aNil))))
    (fun i ys S => ∃ (mss : List (List Int)) (x' z' : Int), ys = mss.map encI ∧ S = [some [.int x', .int y, .int z']] ∧ mss.length = min i n ∧ ∀ ms ∈ mss, Mk many ms)
    ⟨[], x, z, rfl, rfl, by simp, fun n hn => by simp at hn⟩ (fun i ys S q => by obtain ⟨ns, x', z', h1, h2, h3, h4⟩ := q; exact ⟨by simp, by rw [h1, List.length_map, h3]; omega⟩)
    (fun i d ys S hd q => by
      obtain ⟨mss, x', z', h1, h2, h3, h4⟩ := q
      obtain ⟨hi, rfl⟩ := upD_get hd
      obtain ⟨ms, x2, z2, e3, M⟩ := marks_ok x' y z' many h0 (by assumption)
      subst h1 h2
      refine ⟨[some (.int (0 + i)), some (.ref 0), some (.int many)], encI ms, [some [.int x2, .int y, .int z2]], by rw [pat_nm]; rfl, ?_, mss ++ [ms], x2, z2, by simp, rfl, by simp; omega, fun n hn => ?_⟩
      · exact callM_of (ns := [x', y, z']) (rest := [.int many]) (es := [.int many]) (i := 0) (S' := [some [.int x', .int y, .int z']]) rfl rfl (by simp [pureL, pureD]) (by simp [ageL, age]) e3
      · rcases List.mem_append.mp hn with z | z
        · exact h4 n z
        · rw [List.mem_singleton.mp z]; exact M)
  subst hy hS
  rw [upD_len, Nat.min_self] at hl
  exact ⟨mss, x', z', e2, hl, hb⟩
theorem at_mark {ms : List Int} {m : Nat} {v : Int} (hm : Mk m ms) (h0 : 0 ≤ v) (h1 : v ≤ m) : atI (ms.map D.int) v = some (.int (ms.getD v.toNat 0)) := by
  have hl : v.toNat < ms.length := by rw [hm.len]; omega
  rw [atI_ge (j := v.toNat) (by omega) (by simpa using hl), List.getD_eq_getElem?_getD, List.getElem?_eq_getElem hl]
  simp
theorem heap_c2 (r : VS.Env) (S : Store) (mss : List (List Int)) (b : List St2) (m n : Nat) (hn : n ≤ 3) (hl : mss.length = n) (hM : ∀ ms ∈ mss, Mk m ms) (hb : Sm n m b) (h5 : r[5]? = some (some (.lst true (mss.map encI)))) (h7 : r[7]? = some (some (encB b))) : law_heap_c2 r S = some ((placed mss b).map encS, S) := by
  have e : iZipS (aCons (eVar 5) (aCons (eVar 7) aNil)) r S = some (((mss.zip b).map fun q => D.tup [encI q.1, encS q.2], []), S) := by
    have v5 : eVar 5 r S = some (.lst true (mss.map encI), S) := by rw [eVar_eq, h5]; rfl
    have v7 : eVar 7 r S = some (encB b, S) := by rw [eVar_eq, h7]; rfl
    rw [iZipS_eq, aCons_eq, v5, Option.bind_some, aCons_eq, v7]
    show (some ((zipD (mss.map encI) (b.map encS), ([] : List (Nat × List D))), S)) = _
    rw [zip_enc]
  unfold law_heap_c2 aComp
  rw [e]
  simp only [Option.bind_some]
  rw [comp_of (by simp) (fun q : List Int × St2 => D.tup [encI q.1, encS q.2]) (fun q => encS (q.1.getD q.2.1.toNat 0, q.1.getD q.2.2.toNat 0)) (mss.zip b) (by rw [List.length_zip]; omega)]
  · unfold placed; rw [List.map_map]; rfl
  · intro q hq
    obtain ⟨ms, p⟩ := q
    have hm := hM ms (List.of_mem_zip hq).1
    have hp := hb.all p (List.of_mem_zip hq).2
    have a1 := at_mark hm hp.1 (by omega)
    have a2 := at_mark hm (v := p.2) (by omega) hp.2.2
    exact ⟨[some (encI ms), some (.int p.1), some (.int p.2)], by simp [capE, pat_nm, pat_tp, pats_nil, pats_cons, List.replicate_succ, -List.map_map, -Option.map_bind, encS], by simp [eVar_eq, eOp_eq, aNil_eq, aCons_eq, eTup_eq, oIx, VS.listOf, seqOf, -List.map_map, -Option.map_bind, encI, a1, a2, encS]⟩
theorem placed_ok {mss : List (List Int)} {b : List St2} {m n : Nat} (hl : mss.length = n) (hM : ∀ ms ∈ mss, Mk m ms) (hb : Sm n m b) : (placed mss b).length = n ∧ ∀ p ∈ placed mss b, p.1 < p.2 ∧ -1000000000 ≤ p.1 ∧ p.2 ≤ 1000000000 := by
  have h1 := hb.len
  refine ⟨by unfold placed; rw [List.length_map, List.length_zip]; omega, fun p hp => ?_⟩
  obtain ⟨q, hq, rfl⟩ := List.mem_map.mp hp
  obtain ⟨ms, p⟩ := q
  have hm := hM ms (List.of_mem_zip hq).1
  have hp := hb.all p (List.of_mem_zip hq).2
  have l1 : p.1.toNat < ms.length := by rw [hm.len]; omega
  have l2 : p.2.toNat < ms.length := by rw [hm.len]; omega
  simp only [List.getD_eq_getElem?_getD, List.getElem?_eq_getElem l1, List.getElem?_eq_getElem l2, Option.getD_some]
  exact ⟨(List.pairwise_iff_getElem.mp hm.rise) _ _ l1 l2 (by omega), (hm.near _ (List.getElem_mem l1)).1, (hm.near _ (List.getElem_mem l2)).2⟩
end W12
end
section
set_option Elab.async false
set_option maxRecDepth 10000
set_option linter.all false
set_option maxHeartbeats 4000000
namespace W12
open PySem L2 VS

structure Made (n m : Nat) (sm : List (List St2)) (mss : List (List Int)) : Prop where
  few : sm.length ≤ [0, 20, 10, 6].getD n 0
  box : ∀ b ∈ sm, Sm n m b
  len : mss.length = n
  mks : ∀ ms ∈ mss, Mk m ms
  big : m ≤ 40
theorem Made.good {n m : Nat} {sm : List (List St2)} {mss : List (List Int)} (h : Made n m sm mss) (hn : n = 1 ∨ n = 2 ∨ n = 3) : Good n (sm.map (placed mss)) :=
  ⟨hn, by rw [List.length_map]; exact h.few, fun b hb => by
    obtain ⟨c, hc, rfl⟩ := List.mem_map.mp hb
    exact placed_ok h.len h.mks (h.box c hc)⟩
theorem heap_l1 (p : List D) (n m : Nat) (hn : n ≤ 3) (most mn' : D) (sm : List (List St2)) (hsm : sm.length ≤ 20) (hb : ∀ b ∈ sm, Sm n m b) (mss : List (List Int)) (hl : mss.length = n) (hM : ∀ ms ∈ mss, Mk m ms) : ∃ z7 : Option D,
    law_heap_l1 [some (.ref 0), some (.int n), some most, some mn', some (.lst true (sm.map encB)), some (.lst true (mss.map encI)), some (.ref 1), none] [some p, some []] = some (.nx, [some (.ref 0), some (.int n), some most, some mn', some (.lst true (sm.map encB)), some (.lst true (mss.map encI)), some (.ref 1), z7], [some p, some ((sm.map (placed mss)).map encB)]) := by
  have e : iSeq (eVar 4) [some (.ref 0), some (.int n), some most, some mn', some (.lst true (sm.map encB)), some (.lst true (mss.map encI)), some (.ref 1), none] [some p, some []] = some ((sm.map encB, []), [some p, some []]) := rfl
  obtain ⟨env', S', e2, z7, he, hS⟩ := loop_all (w := []) (g := Pat.sem (.nm 7)) (b := law_heap_b1) (ds := sm.map encB) (env := [some (.ref 0), some (.int n), some most, some mn', some (.lst true (sm.map encB)), some (.lst true (mss.map encI)), some (.ref 1), none]) (S := [some p, some []])
    (fun i env S => ∃ z7 : Option D, env = [some (.ref 0), some (.int n), some most, some mn', some (.lst true (sm.map encB)), some (.lst true (mss.map encI)), some (.ref 1), z7] ∧ S = [some p, some (((sm.take i).map (placed mss)).map encB)])
    ⟨none, rfl, rfl⟩ (fun i env S _ => by simp) (fun i d env S hd q => by
      obtain ⟨z7, he, hS⟩ := q
      subst he hS
      rw [List.getElem?_map] at hd
      obtain ⟨b, hb', rfl⟩ := Option.map_eq_some_iff.mp hd
      have hi : i < sm.length := (List.getElem?_eq_some_iff.mp hb').1
      refine ⟨[some (.ref 0), some (.int n), some most, some mn', some (.lst true (sm.map encB)), some (.lst true (mss.map encI)), some (.ref 1), some (encB b)], by rw [pat_nm]; rfl, [some (.ref 0), some (.int n), some most, some mn', some (.lst true (sm.map encB)), some (.lst true (mss.map encI)), some (.ref 1), some (encB b)], [some p, some (((sm.take (i + 1)).map (placed mss)).map encB)], ?_, _, rfl, rfl⟩
      have c2 := heap_c2 [some (.ref 0), some (.int n), some most, some mn', some (.lst true (sm.map encB)), some (.lst true (mss.map encI)), some (.ref 1), some (encB b)] [some p, some (((sm.take i).map (placed mss)).map encB)] mss b m n hn hl hM (hb b (List.mem_of_getElem? hb')) rfl rfl
      unfold law_heap_b1
      rw [sExp_eq, meth_of (d := .ref 1) (cs := ((sm.take i).map (placed mss)).map encB) (ds := [encB (placed mss b)]) (r := .non) (S1 := [some p, some (((sm.take i).map (placed mss)).map encB)]) (S2 := [some p, some (((sm.take i).map (placed mss)).map encB)]) (S3 := [some p, some (((sm.take (i + 1)).map (placed mss)).map encB)]) rfl rfl (by
        rw [aCons_eq, eCB_eq, aCons_eq, eFrz_eq, c2]; rfl) (by
        show (if (((sm.take i).map (placed mss)).map encB).length < 1000000 then some (D.non, [some p, some (((sm.take i).map (placed mss)).map encB ++ [encB (placed mss b)])]) else none) = _
        rw [if_pos (by rw [List.length_map, List.length_map, List.length_take]; omega), List.take_succ, hb', Option.toList_some, List.map_append, List.map_append]
        rfl)]
      rfl)
  subst he hS
  have : (sm.map encB).length = sm.length := by simp
  rw [this, List.take_length] at e2
  refine ⟨z7, ?_⟩
  unfold law_heap_l1
  rw [sFor_eq, e]
  exact e2
theorem pure_encIs : ∀ mss : List (List Int), pureL (mss.map encI) = true
  | [] => rfl
  | m :: r => by rw [List.map_cons, pureL, encI, pureD, pureL_ints, pure_encIs r]; rfl
theorem heap_ok (x y z : Int) (n most : Nat) (h1 : n = 1 ∨ n = 2 ∨ n = 3) (h4 : 4 ≤ most) (hm : most ≤ [0, 20, 10, 6].getD n 0) : ∃ (m : Nat) (sm : List (List St2)) (mss : List (List Int)) (x' z' : Int), sem_law_heap [x, y, z] [.int n, .int most] = some (.tup [.lst true (sm.map encB), .lst true (mss.map encI), encH true n (sm.map (placed mss))], [x', y, z']) ∧ Made n m sm mss := by
  obtain ⟨r1, x1, z1, e1, _, _⟩ := take_ok x y z 3 (by decide) (by decide)
  obtain ⟨m, f1, m8, m40, hM⟩ : ∃ m : Nat, atI [D.int 8, D.int ([0, 40, 20, 12].getD n 0 : Nat)] (if r1 = 0 then 1 else 0) = some (.int m) ∧ 8 ≤ m ∧ m ≤ 40 ∧ (8 < m → 2 * most ≤ m) := by
    by_cases h : r1 = 0
    · rw [if_pos h]
      refine ⟨[0, 40, 20, 12].getD n 0, by simp, ?_⟩
      rcases h1 with rfl | rfl | rfl <;> simp at hm ⊢ <;> omega
    · rw [if_neg h]
      exact ⟨8, by simp, by decide, by decide, by omega⟩
  have hn3 : n ≤ 3 := by omega
  have h20 : most ≤ 20 := by rcases h1 with rfl | rfl | rfl <;> simp at hm <;> omega
  have h10 : n = 2 → most ≤ 10 := fun h => by rw [h] at hm; simpa using hm
  obtain ⟨sm, x2, z2, e2, s1, s2⟩ := small_ok x1 y z1 n most m hn3 h4 h20 h10 m8 m40 hM
  obtain ⟨mss, x3, z3, e3, hl, hk⟩ := heap_c1 x2 y z2 n m (.int most) (.lst true (sm.map encB)) hn3 m8 m40
  obtain ⟨z7, l1⟩ := heap_l1 [.int x3, .int y, .int z3] n m hn3 (.int most) (.int m) sm (by omega) s2 mss hl hk
  refine ⟨m, sm, mss, x3, z3, ?_, ⟨by omega, s2, hl, hk, m40⟩⟩
  have f0 : atI [D.int 0, D.int 40, D.int 20, D.int 12] (n : Int) = some (.int ([0, 40, 20, 12].getD n 0 : Nat)) := by
    rcases h1 with rfl | rfl | rfl <;> rfl
  have t1 : (sSet 3 (eOp oIx (eFrz (aCons (eC (.int 8)) (aCons (eOp oIx (eFrz (aCons (eC (.int 0)) (aCons (eC (.int 40)) (aCons (eC (.int 20)) (aCons (eC (.int 12)) aNil))))) (eVar 1)) aNil))) (eCB bInt (aCons (eOp (oEq false) (eCallM sem_law_take (aCons (eVar 0) (aCons (eC (.int 3)) aNil))) (eC (.int 0))) aNil)))) [some (.ref 0), some (.int n), some (.int most), none, none, none, none, none] [some [.int x, .int y, .int z]] = some (.nx, [some (.ref 0), some (.int n), some (.int most), some (.int m), none, none, none, none], [some [.int x1, .int y, .int z1]]) := by
    have a1 : eFrz (aCons (eC (.int 8)) (aCons (eOp oIx (eFrz (aCons (eC (.int 0)) (aCons (eC (.int 40)) (aCons (eC (.int 20)) (aCons (eC (.int 12)) aNil))))) (eVar 1)) aNil)) [some (.ref 0), some (.int n), some (.int most), none, none, none, none, none] [some [.int x, .int y, .int z]] = some (.lst true [.int 8, .int ([0, 40, 20, 12].getD n 0 : Nat)], [some [.int x, .int y, .int z]]) := by
      have a2 : eOp oIx (eFrz (aCons (eC (.int 0)) (aCons (eC (.int 40)) (aCons (eC (.int 20)) (aCons (eC (.int 12)) aNil))))) (eVar 1) [some (.ref 0), some (.int n), some (.int most), none, none, none, none, none] [some [.int x, .int y, .int z]] = some (.int ([0, 40, 20, 12].getD n 0 : Nat), [some [.int x, .int y, .int z]]) := by
        show Option.map _ (atI [D.int 0, D.int 40, D.int 20, D.int 12] (n : Int)) = _
        rw [f0]; rfl
      rw [eFrz_eq, aCons_eq, eC_eq, Option.bind_some, aCons_eq, a2]; rfl
    have a3 : eCB bInt (aCons (eOp (oEq false) (eCallM sem_law_take (aCons (eVar 0) (aCons (eC (.int 3)) aNil))) (eC (.int 0))) aNil) [some (.ref 0), some (.int n), some (.int most), none, none, none, none, none] [some [.int x, .int y, .int z]] = some (.int (if r1 = 0 then 1 else 0), [some [.int x1, .int y, .int z1]]) := by
      rw [eCB_eq, aCons_eq, eOp_eq, take_at e1 rfl rfl]
      by_cases h : r1 = 0 <;> simp [eC_eq, aNil_eq, oEq, bInt, -List.map_map, -Option.map_bind, h]
    rw [sSet_eq, eOp_eq, a1, Option.bind_some, a3, Option.bind_some]
    show (Option.map _ (atI [D.int 8, D.int ([0, 40, 20, 12].getD n 0 : Nat)] (if r1 = 0 then 1 else 0))).bind _ = _
    rw [f1]; rfl
  have t2 : (sSet 4 (eCallM sem_law_small (aCons (eVar 0) (aCons (eVar 1) (aCons (eVar 2) (aCons (eVar 3) aNil)))))) [some (.ref 0), some (.int n), some (.int most), some (.int m), none, none, none, none] [some [.int x1, .int y, .int z1]] = some (.nx, [some (.ref 0), some (.int n), some (.int most), some (.int m), some (.lst true (sm.map encB)), none, none, none], [some [.int x2, .int y, .int z2]]) := by
    rw [sSet_eq, callM_of (ns := [x1, y, z1]) (rest := [.int n, .int most, .int m]) (es := [.int n, .int most, .int m]) (i := 0) (S' := [some [.int x1, .int y, .int z1]]) rfl rfl (by simp [pureL, pureD]) (by simp [ageL, age]) e2]; rfl
  have t3 : (sSet 5 (eFrz law_heap_c1)) [some (.ref 0), some (.int n), some (.int most), some (.int m), some (.lst true (sm.map encB)), none, none, none] [some [.int x2, .int y, .int z2]] = some (.nx, [some (.ref 0), some (.int n), some (.int most), some (.int m), some (.lst true (sm.map encB)), some (.lst true (mss.map encI)), none, none], [some [.int x3, .int y, .int z3]]) := by
    rw [sSet_eq, eFrz_eq, e3]; rfl
  have t4 : (sSet 6 (eSto aNil)) [some (.ref 0), some (.int n), some (.int most), some (.int m), some (.lst true (sm.map encB)), some (.lst true (mss.map encI)), none, none] [some [.int x3, .int y, .int z3]] = some (.nx, [some (.ref 0), some (.int n), some (.int most), some (.int m), some (.lst true (sm.map encB)), some (.lst true (mss.map encI)), some (.ref 1), none], [some [.int x3, .int y, .int z3], some []]) := rfl
  unfold sem_law_heap
  rw [runM_eq]
  simp only [List.length_cons, List.length_nil, List.map_cons, List.map_nil, Nat.reduceAdd, Nat.reduceSub, List.replicate_succ, List.replicate_zero, List.cons_append, List.nil_append, if_true]
  unfold f_law_heap
  rw [seq_nx t1, seq_nx t2, seq_nx t3, seq_nx t4, seq_nx l1]
  show ((intsOf ([x3, y, z3].map D.int)).bind fun ms => (den 1 [some [.int x3, .int y, .int z3], some ((sm.map (placed mss)).map encB)] (.tup [.lst true (sm.map encB), .lst true (mss.map encI), .tup [.int n, .ref 1]])).map fun r => (r, ms)) = _
  have d1 := pure_denL 1 [some [.int x3, .int y, .int z3], some ((sm.map (placed mss)).map encB)] (flatL_pure (flat_encBs sm))
  have d2 := pure_denL 1 [some [.int x3, .int y, .int z3], some ((sm.map (placed mss)).map encB)] (pure_encIs mss)
  have d3 := den_hold (F := .ref 1) (T := [some ((sm.map (placed mss)).map encB)]) (bs := sm.map (placed mss)) (.inr ⟨0, rfl, rfl⟩) (some [.int x3, .int y, .int z3])
  generalize [some [D.int x3, D.int y, D.int z3], some ((sm.map (placed mss)).map encB)] = S at *
  have q1 : den 1 S (.lst true (sm.map encB)) = some (.lst true (sm.map encB)) := by rw [den, d1]; rfl
  have q2 : den 1 S (.lst true (mss.map encI)) = some (.lst true (mss.map encI)) := by rw [den, d2]; rfl
  have q0 : den 1 S (.int n) = some (.int n) := by rw [den]
  have q3 : den 1 S (.tup [.int n, .ref 1]) = some (encH true n (sm.map (placed mss))) := by
    rw [den]
    simp only [denL, q0, d3, Option.map_some, Option.bind_some, encH]
  rw [intsOf_map, Option.bind_some, den]
  simp only [denL, q1, q2, q3, Option.map_some, Option.bind_some]
end W12
end
section
set_option Elab.async false
set_option maxRecDepth 10000
set_option linter.all false
set_option maxHeartbeats 4000000
namespace W12
open PySem L2 VS
def hasX (w : Nat) (x : Int) (b : List St2) : Bool := decide ((b.getD w (0, 0)).1 ≤ x) && decide (x < (b.getD w (0, 0)).2)
def cutF (bs : List (List St2)) (w : Nat) (x : Int) : List (List St2) := (bs.filter (hasX w x)).map fun b => b.eraseIdx w
theorem at_way {b : List St2} {w : Nat} (h : w < b.length) : atI (b.map encS) (w : Int) = some (encS (b.getD w (0, 0))) := by
  refine atI_nat ?_
  rw [List.getElem?_map, List.getD_eq_getElem?_getD, List.getElem?_eq_getElem h]; rfl
theorem cut_c1 (r : VS.Env) (S : Store) (bs : List (List St2)) (w : Nat) (x : Int) (hl : bs.length ≤ 1000) (hb : ∀ b ∈ bs, w < b.length) (h0 : r[0]? = some (some (.lst false (bs.map encB)))) (h1 : r[1]? = some (some (.int w))) (h2 : r[2]? = some (some (.int x))) : cut_boxes_c1 r S = some ((bs.filter (hasX w x)).map encB, S) := by
  have e : iSeq (eVar 0) r S = some ((bs.map encB, []), S) := by simp [eVar_eq, VS.listOf, seqOf, VS.idOf, iSeq_eq, -List.map_map, -Option.map_bind, h0]
  have ec : capE 1 [1, 2] r = [none, some (.int w), some (.int x)] := by simp [capE, h1, h2]
  unfold cut_boxes_c1 aComp
  rw [e, ec]
  simp only [Option.bind_some]
  rw [comp_if (by simp) encB (hasX w x) encB _ _ (by simp; omega)]
  · simp
  · intro b hm
    have ha := at_way (hb b hm)
    refine ⟨[some (encB b), some (.int w), some (.int x)], by rw [pat_nm]; rfl, ?_, fun _ => rfl⟩
    have i1 : ∀ k : D, eOp oIx (eVar 0) (eVar 1) [some (encB b), some (.int w), some (.int x)] S = some (encS (b.getD w (0, 0)), S) := fun _ => by
      show Option.map _ (atI (b.map encS) (w : Int)) = _
      rw [ha]; rfl
    unfold hasX
    generalize b.getD w (0, 0) = p at *
    by_cases q1 : p.1 ≤ x <;> simp [eVar_eq, eC_eq, eOp_eq, eChain_eq, tVal_eq, oI, yes2, oLt, oLe, oIx, VS.listOf, seqOf, -List.map_map, -Option.map_bind, i1 .non, encS, encB, ha, q1]
theorem cut_c2 (r : VS.Env) (S : Store) (bs : List (List St2)) (w : Nat) (hl : bs.length ≤ 1000) (hb : ∀ b ∈ bs, w < b.length ∧ b.length ≤ 3) (h1 : r[1]? = some (some (.int w))) (h3 : r[3]? = some (some (.lst true (bs.map encB)))) : cut_boxes_c2 r S = some ((bs.map fun b => b.eraseIdx w).map encB, S) := by
  have e : iSeq (eVar 3) r S = some ((bs.map encB, []), S) := by simp [eVar_eq, VS.listOf, seqOf, VS.idOf, iSeq_eq, -List.map_map, -Option.map_bind, h3]
  have ec : capE 1 [1] r = [none, some (.int w)] := by simp [capE, h1]
  unfold cut_boxes_c2 aComp
  rw [e, ec]
  simp only [Option.bind_some]
  rw [comp_of (by simp) encB (fun b => encB (b.eraseIdx w)) bs (by omega), List.map_map]
  · rfl
  · intro b hm
    obtain ⟨q1, q2⟩ := hb b hm
    refine ⟨[some (encB b), some (.int w)], by rw [pat_nm]; rfl, ?_⟩
    have c1 : cut (b.map encS) none (some (w : Int)) = (b.take w).map encS := by
      rw [cut_to (by omega) (by rw [List.length_map]; omega), List.map_take]; rfl
    have c2 : cut (b.map encS) (some ((w : Int) + 1)) none = (b.drop (w + 1)).map encS := by
      rw [cut_from (by omega) (by rw [List.length_map]; omega), List.map_drop]; rfl
    have v0 : eVar 0 [some (encB b), some (.int w)] S = some (encB b, S) := rfl
    have v1 : eVar 1 [some (encB b), some (.int w)] S = some (.int w, S) := rfl
    have l1 : eSl oSl (eVar 0) oNone (oSome (eVar 1)) [some (encB b), some (.int w)] S = some (encB (b.take w), S) := by
      show (some (D.tup (cut (b.map encS) none (some (w : Int))), S) : Option (D × Store)) = _
      rw [c1]; rfl
    have l2 : eSl oSl (eVar 0) (oSome (eOp oAdd (eVar 1) (eC (.int 1)))) oNone [some (encB b), some (.int w)] S = some (encB (b.drop (w + 1)), S) := by
      show (some (D.tup (cut (b.map encS) (some ((w : Int) + 1)) none), S) : Option (D × Store)) = _
      rw [c2]; rfl
    rw [eOp_eq, l1, Option.bind_some, l2, Option.bind_some]
    show Option.map _ (if ((b.take w).map encS).length + ((b.drop (w + 1)).map encS).length ≤ 1000000 then some (D.tup ((b.take w).map encS ++ (b.drop (w + 1)).map encS)) else none) = _
    rw [if_pos (by rw [List.length_map, List.length_map, List.length_take, List.length_drop]; omega), ← List.map_append, ← List.eraseIdx_eq_take_drop_succ]
    rfl
theorem cut_boxes_ok {n : Nat} {bs : List (List St2)} (g : Good n bs) {w : Nat} (hw : w < n) (x : Int) : sem_cut_boxes [.lst false (bs.map encB), .int w, .int x] = some (.lst true ((cutF bs w x).map encB)) := by
  have few := g.few
  have n3 := g.n3
  have c1 := cut_c1 [some (.lst false (bs.map encB)), some (.int w), some (.int x), none] [] bs w x (by omega) (fun b hb => by rw [(g.box b hb).1]; exact hw) rfl rfl rfl
  have c2 := cut_c2 [some (.lst false (bs.map encB)), some (.int w), some (.int x), some (.lst true ((bs.filter (hasX w x)).map encB))] [] (bs.filter (hasX w x)) w (Nat.le_trans (List.length_filter_le ..) (by omega)) (fun b hb => by
    rw [(g.box b (List.mem_filter.mp hb).1).1]; omega) rfl rfl
  have s1 : (sSet 3 (eFrz cut_boxes_c1)) [some (.lst false (bs.map encB)), some (.int w), some (.int x), none] [] = some (.nx, [some (.lst false (bs.map encB)), some (.int w), some (.int x), some (.lst true ((bs.filter (hasX w x)).map encB))], []) := by
    rw [sSet_eq, eFrz_eq, c1]; rfl
  unfold sem_cut_boxes
  rw [runP_eq]
  simp only [List.length_cons, List.length_nil, List.map_cons, List.map_nil, Nat.reduceAdd, Nat.reduceSub, List.replicate_succ, List.replicate_zero, List.cons_append, List.nil_append, if_true]
  unfold f_cut_boxes
  rw [seq_nx s1, sRet_eq, eFrz_eq, c2]
  show den 0 _ (.lst true _) = _
  rw [den, pure_denL 0 _ (flatL_pure (flat_encBs _))]; rfl
theorem need_way_ok {n : Nat} {bs : List (List St2)} {w : Nat} (hw : w < n) : sem_need_way [encH false n bs, .int w] = some .non := by
  have c1 : eCallP sem_is_whole (aCons (eVar 1) aNil) [some (encH false n bs), some (.int w)] [] = some (.bl true, []) :=
    callP_of (ds := [.int w]) (es := [.int w]) (S' := []) rfl (by simp [pureL, pureD]) (by simp [ageL, age]) (is_whole_int w)
  have k1 : tVal (eOp oLt (eVar 1) (eC (.int 0))) [some (encH false n bs), some (.int w)] [] = some (decide ((w : Int) < 0), []) := rfl
  have k2 : tVal (eOp oGe (eVar 1) (eOp oIx (eVar 0) (eC (.int 0)))) [some (encH false n bs), some (.int w)] [] = some (decide ((n : Int) ≤ w), []) := rfl
  have ts : tOr (tNot (tVal (eCallP sem_is_whole (aCons (eVar 1) aNil)))) (tOr (tVal (eOp oLt (eVar 1) (eC (.int 0)))) (tVal (eOp oGe (eVar 1) (eOp oIx (eVar 0) (eC (.int 0)))))) [some (encH false n bs), some (.int w)] [] = some (false, []) := by
    rw [tOr_eq, tNot_eq, tVal_eq, c1]
    simp only [Option.bind_some, Bool.not_true, Bool.false_eq_true, if_false]
    rw [tOr_eq, k1, show decide ((w : Int) < 0) = false from decide_eq_false (by omega)]
    simp only [Option.bind_some, Bool.false_eq_true, if_false]
    rw [k2, show decide ((n : Int) ≤ w) = false from decide_eq_false (by omega)]
  unfold sem_need_way
  rw [runP_eq]
  simp only [List.length_cons, List.length_nil, List.map_cons, List.map_nil, Nat.reduceAdd, Nat.reduceSub, List.replicate_zero, List.append_nil, if_true]
  unfold f_need_way
  rw [if_no ts]; rfl
def encK (m : Bool) (n : Nat) (bs : List (List St2)) : D := .tup [.int ((n : Int) - 1), .lst m (bs.map encB)]
theorem cut_at_ok {n : Nat} {bs : List (List St2)} (g : Good n bs) (h2 : 2 ≤ n) {w : Nat} (hw : w < n) (x : Int) : sem_cut_at [encH false n bs, .int w, .int x] = some (encK true n (cutF bs w x)) := by
  have h1 := need_heap_ok (m := false) g
  have h3 := need_way_ok (bs := bs) hw
  have h4 := cut_boxes_ok g hw x
  have hpu : pureL (bs.map encB) = true := flatL_pure (flat_encBs bs)
  have s1 : (sExp (eCallP sem_need_heap (aCons (eVar 0) aNil))) [some (encH false n bs), some (.int w), some (.int x)] [] = some (.nx, [some (encH false n bs), some (.int w), some (.int x)], []) := by
    rw [sExp_eq, callP_of (ds := [encH false n bs]) (es := [encH false n bs]) (S' := []) rfl (by simp [pureL, pureD, encH]) (by simp [ageL, age, encH]) h1]; rfl
  have t2 : tVal (eOp (oEq false) (eOp oIx (eVar 0) (eC (.int 0))) (eC (.int 1))) [some (encH false n bs), some (.int w), some (.int x)] [] = some (false, []) := by
    have : ¬ (n = 1) := by omega
    simp [eVar_eq, eC_eq, eOp_eq, tVal_eq, oEq, oIx, VS.listOf, seqOf, -List.map_map, -Option.map_bind, encH]
    omega
  have s2 : (sIf (tVal (eOp (oEq false) (eOp oIx (eVar 0) (eC (.int 0))) (eC (.int 1)))) sNever sNil) [some (encH false n bs), some (.int w), some (.int x)] [] = some (.nx, [some (encH false n bs), some (.int w), some (.int x)], []) := by rw [if_no t2]; rfl
  have s3 : (sExp (eCallP sem_need_way (aCons (eVar 0) (aCons (eVar 1) aNil)))) [some (encH false n bs), some (.int w), some (.int x)] [] = some (.nx, [some (encH false n bs), some (.int w), some (.int x)], []) := by
    rw [sExp_eq, callP_of (ds := [encH false n bs, .int w]) (es := [encH false n bs, .int w]) (S' := []) rfl (by simp [pureL, pureD, encH]) (by simp [ageL, age, encH]) h3]; rfl
  have c4 : eCallP sem_is_whole (aCons (eVar 2) aNil) [some (encH false n bs), some (.int w), some (.int x)] [] = some (.bl true, []) :=
    callP_of (ds := [.int x]) (es := [.int x]) (S' := []) rfl (by simp [pureL, pureD]) (by simp [ageL, age]) (is_whole_int x)
  have s4 : (sIf (tNot (tVal (eCallP sem_is_whole (aCons (eVar 2) aNil)))) sNever sNil) [some (encH false n bs), some (.int w), some (.int x)] [] = some (.nx, [some (encH false n bs), some (.int w), some (.int x)], []) := by
    rw [if_no (by rw [tNot_eq, tVal_eq, c4]; rfl)]; rfl
  have c5 : eCallP sem_cut_boxes (aCons (eOp oIx (eVar 0) (eC (.int 1))) (aCons (eVar 1) (aCons (eVar 2) aNil))) [some (encH false n bs), some (.int w), some (.int x)] [] = some (.lst true ((cutF bs w x).map encB), []) :=
    callP_of (ds := [.lst false (bs.map encB), .int w, .int x]) (es := [.lst false (bs.map encB), .int w, .int x]) (S' := []) rfl (by simp [pureL, pureD]) (by simp [ageL, age]) h4
  unfold sem_cut_at
  rw [runP_eq]
  simp only [List.length_cons, List.length_nil, List.map_cons, List.map_nil, Nat.reduceAdd, Nat.reduceSub, List.replicate_zero, List.append_nil, if_true]
  unfold f_cut_at
  have o1 : eOp oSub (eOp oIx (eVar 0) (eC (.int 0))) (eC (.int 1)) [some (encH false n bs), some (.int w), some (.int x)] [] = some (.int ((n : Int) - 1), []) := rfl
  rw [seq_nx s1, seq_nx s2, seq_nx s3, seq_nx s4, sRet_eq, eTup_eq, aCons_eq, o1, Option.bind_some, aCons_eq, c5]
  show den 0 _ (encK true n (cutF bs w x)) = _
  refine pure_den 0 _ ?_
  simp [encK, pureD, pureL, flatL_pure (flat_encBs _)]
end W12
end
section
set_option Elab.async false
set_option maxRecDepth 10000
set_option linter.all false
set_option maxHeartbeats 4000000
namespace W12
open PySem L2 VS
theorem fit_seq (ws : List Nat) (w : Nat) (xs : List PyData) (hl : xs.length ≤ w) (h : ∀ x ∈ xs, fit ws x = true) : fit (w :: ws) (.list xs) = true ∧ fit (w :: ws) (.tuple xs) = true := by
  have : (decide (xs.length ≤ w) && xs.all (fit ws)) = true := by
    rw [Bool.and_eq_true]
    exact ⟨decide_eq_true hl, List.all_eq_true.mpr h⟩
  exact ⟨this, this⟩

structure Near (n : Nat) (bs : List (List St2)) : Prop where
  few : bs.length ≤ 20
  len : ∀ b ∈ bs, b.length ≤ 3
  num : ∀ b ∈ bs, ∀ p ∈ b, p.1.natAbs < 10 ^ 41 ∧ p.2.natAbs < 10 ^ 41
theorem fit_heap {n : Nat} (hn : n ≤ 3) {bs : List (List St2)} (h : Near n bs) : fit [2, 20, 3, 2] (.tuple [.int n, .list (bs.map pB)]) = true := by
  refine (fit_seq _ _ _ (by simp) fun x hx => ?_).2
  simp only [List.mem_cons, List.not_mem_nil, or_false] at hx
  rcases hx with rfl | rfl
  · show decide ((n : Int).natAbs < 10 ^ 41) = true
    refine decide_eq_true (Nat.lt_of_le_of_lt (m := 3) ?_ (by decide))
    omega
  · refine (fit_seq _ _ _ (by rw [List.length_map]; exact h.few) fun x hx => ?_).1
    obtain ⟨b, hb, rfl⟩ := List.mem_map.mp hx
    refine (fit_seq _ _ _ (by rw [List.length_map]; exact h.len b hb) fun x hx => ?_).2
    obtain ⟨p, hp, rfl⟩ := List.mem_map.mp hx
    refine (fit_seq _ _ _ (by simp) fun x hx => ?_).2
    obtain ⟨q1, q2⟩ := h.num b hb p hp
    simp only [List.mem_cons, List.not_mem_nil, or_false] at hx
    rcases hx with rfl | rfl
    · exact decide_eq_true q1
    · exact decide_eq_true q2
theorem repr_of {S : Store} {d : D} {p : PyData} {ws : List Nat} (h : seeP S d = some p) (hf : fit ws p = true) (hw : ws.length ≤ 50) (hb : bnd ws ≤ 1000000) : bRepr S [d] = some (.str p.shown) := by
  obtain ⟨f1, f2, f3⟩ := fit_ok ws p hf
  show (seeP S d).bind _ = _
  rw [h, Option.bind_some]
  have : (p.showable && decide (p.depth ≤ 60) && decide (p.shown.length ≤ 1000000)) = true := by
    rw [Bool.and_eq_true, Bool.and_eq_true]
    exact ⟨⟨f1, decide_eq_true (by omega)⟩, decide_eq_true (by omega)⟩
  rw [if_pos this]
theorem cut_near {n : Nat} {bs : List (List St2)} (g : Good n bs) (w : Nat) (x : Int) : Near (n - 1) (cutF bs w x) := by
  have few := g.few
  have n3 := g.n3
  have hmem : ∀ b ∈ cutF bs w x, ∃ c ∈ bs, b = c.eraseIdx w := fun b hb => by
    obtain ⟨c, hc, q⟩ := List.mem_map.mp hb
    exact ⟨c, (List.mem_filter.mp hc).1, q.symm⟩
  refine ⟨?_, fun b hb => ?_, fun b hb p hp => ?_⟩
  · unfold cutF
    rw [List.length_map]
    exact Nat.le_trans (List.length_filter_le ..) few
  · obtain ⟨c, hc, rfl⟩ := hmem b hb
    have := List.length_eraseIdx_le c w
    rw [(g.box c hc).1] at this
    omega
  · obtain ⟨c, hc, rfl⟩ := hmem b hb
    have := (g.box c hc).2 p (List.mem_of_mem_eraseIdx hp)
    constructor
    · exact Nat.lt_of_le_of_lt (m := 1000000000) (by omega) (by decide)
    · exact Nat.lt_of_le_of_lt (m := 1000000000) (by omega) (by decide)
theorem encK_is {n : Nat} (h : 1 ≤ n) (m : Bool) (bs : List (List St2)) : encK m n bs = encH m (n - 1) bs := by
  unfold encK encH
  rw [show ((n : Int) - 1) = ((n - 1 : Nat) : Int) by omega]
theorem erase_range {n w : Nat} {b : List St2} (hb : b.length = n) (hn : n ≤ 3) (hw : w < n) : ((List.range n).filter fun i => decide (i ≠ w)).map (fun i => b.getD i (0, 0)) = b.eraseIdx w := by
  subst hb
  match b, hn, hw with
  | [p], _, hw =>
    have : w = 0 := by simpa using hw
    subst this; rfl
  | [p, q], _, hw =>
    have : w = 0 ∨ w = 1 := by simp at hw; omega
    rcases this with rfl | rfl <;> rfl
  | [p, q, r], _, hw =>
    have : w = 0 ∨ w = 1 ∨ w = 2 := by simp at hw; omega
    rcases this with rfl | rfl | rfl <;> rfl
  | _ :: _ :: _ :: _ :: _, h, _ => simp at h
theorem due_c1 (r : VS.Env) (S : Store) {n w : Nat} (b : List St2) (bs : List (List St2)) (hn : n ≤ 3) (hw : w < n) (hb : b.length = n) (h0 : r[0]? = some (some (encH false n bs))) (h1 : r[1]? = some (some (.int w))) (h4 : r[4]? = some (some (encB b))) : law_due_c1 r S = some ((b.eraseIdx w).map encS, S) := by
  have e : iRange1 (aCons (eOp oIx (eVar 0) (eC (.int 0))) aNil) r S = some ((upD 0 n, []), S) := range1 (j := n) _ (by
    have v0 : eVar 0 r S = some (encH false n bs, S) := by rw [eVar_eq, h0]; rfl
    rw [aCons_eq, eOp_eq, v0]; rfl) (by simp) (by omega) (by omega)
  have ec : capE 1 [4, 1] r = [none, some (encB b), some (.int w)] := by simp [capE, h1, h4]
  unfold law_due_c1 aComp
  rw [e, ec]
  simp only [Option.bind_some]
  rw [show upD 0 n = (List.range n).map fun (i : Nat) => D.int i by unfold upD; simp, comp_if (by simp) (fun (i : Nat) => D.int i) (fun i => decide (i ≠ w)) (fun i => encS (b.getD i (0, 0))) _ _ (by simp; omega)]
  · rw [List.nil_append, ← erase_range hb hn hw, List.map_map]; rfl
  · intro i hi
    have hi' := List.mem_range.mp hi
    have ha := at_way (b := b) (w := i) (by omega)
    refine ⟨[some (.int i), some (encB b), some (.int w)], by rw [pat_nm]; rfl, ?_, fun _ => ?_⟩
    · have : ((i : Int) = w) ↔ i = w := by omega
      simp [eVar_eq, eOp_eq, tVal_eq, oEq, -List.map_map, -Option.map_bind, this]
    · show Option.map _ (atI (b.map encS) (i : Int)) = _
      rw [ha]; rfl
theorem due_ok {n : Nat} {bs : List (List St2)} (g : Good n bs) {w : Nat} (hw : w < n) (x : Int) : sem_law_due [encH false n bs, .int w, .int x] = some (encK true n (cutF bs w x)) := by
  have few := g.few
  have n3 := g.n3
  have s1 : (sSet 3 (eSto aNil)) [some (encH false n bs), some (.int w), some (.int x), none, none, none, none] [] = some (.nx, [some (encH false n bs), some (.int w), some (.int x), some (.ref 0), none, none, none], [some []]) := rfl
  have e : iSeq (eOp oIx (eVar 0) (eC (.int 1))) [some (encH false n bs), some (.int w), some (.int x), some (.ref 0), none, none, none] [some []] = some ((bs.map encB, []), [some []]) := rfl
  obtain ⟨env', S', e2, z4, z5, z6, he, hS⟩ := loop_all (w := []) (g := Pat.sem (.nm 4)) (b := law_due_b1) (ds := bs.map encB) (env := [some (encH false n bs), some (.int w), some (.int x), some (.ref 0), none, none, none]) (S := [some []])
    (fun i env S => ∃ z4 z5 z6 : Option D, env = [some (encH false n bs), some (.int w), some (.int x), some (.ref 0), z4, z5, z6] ∧ S = [some ((cutF (bs.take i) w x).map encB)])
    ⟨none, none, none, rfl, rfl⟩ (fun i env S _ => by simp) (fun i d env S hd q => by
      obtain ⟨z4, z5, z6, he, hS⟩ := q
      subst he hS
      rw [List.getElem?_map] at hd
      obtain ⟨b, hb', rfl⟩ := Option.map_eq_some_iff.mp hd
      have hb := (g.box b (List.mem_of_getElem? hb')).1
      have ha := at_way (b := b) (w := w) (by omega)
      have ht : bs.take (i + 1) = bs.take i ++ [b] := by rw [List.take_succ, hb']; rfl
      refine ⟨[some (encH false n bs), some (.int w), some (.int x), some (.ref 0), some (encB b), z5, z6], by rw [pat_nm]; rfl, [some (encH false n bs), some (.int w), some (.int x), some (.ref 0), some (encB b), some (.int (b.getD w (0, 0)).1), some (.int (b.getD w (0, 0)).2)], [some ((cutF (bs.take (i + 1)) w x).map encB)], ?_, _, _, _, rfl, rfl⟩
      have a1 : (sAsg (eOp oIx (eVar 4) (eVar 1)) (Pat.sem (.tp [(.nm 5), (.nm 6)]))) [some (encH false n bs), some (.int w), some (.int x), some (.ref 0), some (encB b), z5, z6] [some ((cutF (bs.take i) w x).map encB)] = some (.nx, [some (encH false n bs), some (.int w), some (.int x), some (.ref 0), some (encB b), some (.int (b.getD w (0, 0)).1), some (.int (b.getD w (0, 0)).2)], [some ((cutF (bs.take i) w x).map encB)]) := by
        have i1 : eOp oIx (eVar 4) (eVar 1) [some (encH false n bs), some (.int w), some (.int x), some (.ref 0), some (encB b), z5, z6] [some ((cutF (bs.take i) w x).map encB)] = some (encS (b.getD w (0, 0)), [some ((cutF (bs.take i) w x).map encB)]) := by
          show Option.map _ (atI (b.map encS) (w : Int)) = _
          rw [ha]; rfl
        rw [sAsg_eq, i1]
        simp [pat_nm, pat_tp, pats_nil, pats_cons, -List.map_map, -Option.map_bind, encS]
      have k1 : tVal (eOp oLe (eVar 5) (eVar 2)) [some (encH false n bs), some (.int w), some (.int x), some (.ref 0), some (encB b), some (.int (b.getD w (0, 0)).1), some (.int (b.getD w (0, 0)).2)] [some ((cutF (bs.take i) w x).map encB)] = some (decide ((b.getD w (0, 0)).1 ≤ x), [some ((cutF (bs.take i) w x).map encB)]) := rfl
      have k2 : tVal (eOp oLt (eVar 2) (eVar 6)) [some (encH false n bs), some (.int w), some (.int x), some (.ref 0), some (encB b), some (.int (b.getD w (0, 0)).1), some (.int (b.getD w (0, 0)).2)] [some ((cutF (bs.take i) w x).map encB)] = some (decide (x < (b.getD w (0, 0)).2), [some ((cutF (bs.take i) w x).map encB)]) := rfl
      have ts := tAnd_dec k1 k2
      have hx : hasX w x b = decide ((b.getD w (0, 0)).1 ≤ x ∧ x < (b.getD w (0, 0)).2) := by
        unfold hasX; rw [Bool.decide_and]
      have lc : (cutF (bs.take i) w x).length ≤ 20 := by
        unfold cutF
        rw [List.length_map]
        refine Nat.le_trans (List.length_filter_le ..) ?_
        rw [List.length_take]; omega
      unfold law_due_b1
      rw [seq_nx a1]
      by_cases h : (b.getD w (0, 0)).1 ≤ x ∧ x < (b.getD w (0, 0)).2
      · rw [decide_eq_true h] at ts hx
        have c1 := due_c1 [some (encH false n bs), some (.int w), some (.int x), some (.ref 0), some (encB b), some (.int (b.getD w (0, 0)).1), some (.int (b.getD w (0, 0)).2)] [some ((cutF (bs.take i) w x).map encB)] b bs n3.2 hw hb rfl rfl rfl
        have hcut : cutF (bs.take (i + 1)) w x = cutF (bs.take i) w x ++ [b.eraseIdx w] := by
          unfold cutF
          rw [ht, List.filter_append, List.filter_cons_of_pos hx, List.map_append]; rfl
        rw [if_yes ts, sExp_eq, meth_of (d := .ref 0) (cs := (cutF (bs.take i) w x).map encB) (ds := [encB (b.eraseIdx w)]) (r := .non) (S1 := [some ((cutF (bs.take i) w x).map encB)]) (S2 := [some ((cutF (bs.take i) w x).map encB)]) (S3 := [some ((cutF (bs.take (i + 1)) w x).map encB)]) rfl rfl (by
          rw [aCons_eq, eCB_eq, aCons_eq, eFrz_eq, c1]; rfl) (by
          show (if ((cutF (bs.take i) w x).map encB).length < 1000000 then some (D.non, [some ((cutF (bs.take i) w x).map encB ++ [encB (b.eraseIdx w)])]) else none) = _
          rw [if_pos (by rw [List.length_map]; omega), hcut, List.map_append]
          rfl)]
        rfl
      · rw [decide_eq_false h] at ts hx
        have hcut : cutF (bs.take (i + 1)) w x = cutF (bs.take i) w x := by
          unfold cutF
          rw [ht, List.filter_append, List.filter_cons_of_neg (by rw [hx]; simp), List.filter_nil, List.append_nil]
        rw [if_no ts, hcut]; rfl)
  subst he hS
  have : (bs.map encB).length = bs.length := by simp
  rw [this, List.take_length] at e2
  have l1 : law_due_l1 [some (encH false n bs), some (.int w), some (.int x), some (.ref 0), none, none, none] [some []] = some (.nx, [some (encH false n bs), some (.int w), some (.int x), some (.ref 0), z4, z5, z6], [some ((cutF bs w x).map encB)]) := by
    unfold law_due_l1
    rw [sFor_eq, e]
    exact e2
  unfold sem_law_due
  rw [runP_eq]
  simp only [List.length_cons, List.length_nil, List.map_cons, List.map_nil, Nat.reduceAdd, Nat.reduceSub, List.replicate_succ, List.replicate_zero, List.cons_append, List.nil_append, if_true]
  unfold f_law_due
  rw [seq_nx s1, seq_nx l1]
  show den 0 [some ((cutF bs w x).map encB)] (.tup [.int ((n : Int) - 1), .ref 0]) = _
  have d3 : den 0 [some ((cutF bs w x).map encB)] (.ref 0) = some (.lst true ((cutF bs w x).map encB)) := by
    rw [den, if_neg (by omega)]
    show (if pureL ((cutF bs w x).map encB) = true then _ else _) = _
    rw [if_pos (flatL_pure (flat_encBs _))]
  have q0 : ∀ S : Store, den 0 S (.int ((n : Int) - 1)) = some (.int ((n : Int) - 1)) := fun S => by rw [den]
  rw [den]
  simp only [denL, q0, d3, Option.bind_some, Option.map_some, encK]
end W12
end
section
set_option Elab.async false
set_option maxRecDepth 10000
set_option linter.all false
set_option maxHeartbeats 4000000
namespace W12
open PySem L2 VS
theorem ends_ok {n : Nat} {bs : List (List St2)} (g : Good n bs) {w : Nat} (hw : w < n) : ∃ es : List Int, es.length ≤ 40 ∧ sem_law_ends [encH false n bs, .int w] = some (.lst true (es.map .int)) := by
  have few := g.few
  have s1 : (sSet 2 (eSto aNil)) [some (encH false n bs), some (.int w), none, none] [] = some (.nx, [some (encH false n bs), some (.int w), some (.ref 0), none], [some (([] : List Int).map .int)]) := rfl
  have e : iSeq (eOp oIx (eVar 0) (eC (.int 1))) [some (encH false n bs), some (.int w), some (.ref 0), none] [some (([] : List Int).map .int)] = some ((bs.map encB, []), [some (([] : List Int).map .int)]) := rfl
  obtain ⟨env', S', e2, z3, es, he, hS, hl⟩ := loop_all (w := []) (g := Pat.sem (.nm 3)) (b := law_ends_b1) (ds := bs.map encB) (env := [some (encH false n bs), some (.int w), some (.ref 0), none]) (S := [some (([] : List Int).map .int)])
    (fun i env S => ∃ (z3 : Option D) (es : List Int), env = [some (encH false n bs), some (.int w), some (.ref 0), z3] ∧ S = [some (es.map .int)] ∧ es.length = 2 * min i bs.length)
    ⟨none, [], rfl, rfl, by simp⟩ (fun i env S _ => by simp) (fun i d env S hd q => by
      obtain ⟨z3, es, he, hS, hl⟩ := q
      subst he hS
      rw [List.getElem?_map] at hd
      obtain ⟨b, hb', rfl⟩ := Option.map_eq_some_iff.mp hd
      have hi : i < bs.length := (List.getElem?_eq_some_iff.mp hb').1
      have hb := (g.box b (List.mem_of_getElem? hb')).1
      have ha := at_way (b := b) (w := w) (by omega)
      refine ⟨[some (encH false n bs), some (.int w), some (.ref 0), some (encB b)], by rw [pat_nm]; rfl, [some (encH false n bs), some (.int w), some (.ref 0), some (encB b)], [some ((es ++ [(b.getD w (0, 0)).1, (b.getD w (0, 0)).2]).map .int)], ?_, _, _, rfl, rfl, by simp; omega⟩
      have i1 : eOp oIx (eVar 3) (eVar 1) [some (encH false n bs), some (.int w), some (.ref 0), some (encB b)] [some (es.map .int)] = some (encS (b.getD w (0, 0)), [some (es.map .int)]) := by
        show Option.map _ (atI (b.map encS) (w : Int)) = _
        rw [ha]; rfl
      unfold law_ends_b1
      rw [sExp_eq, meth_of (d := .ref 0) (cs := es.map .int) (ds := [.lst true [.int (b.getD w (0, 0)).1, .int (b.getD w (0, 0)).2]]) (r := .non) (S1 := [some (es.map .int)]) (S2 := [some (es.map .int)]) (S3 := [some ((es ++ [(b.getD w (0, 0)).1, (b.getD w (0, 0)).2]).map .int)]) rfl rfl (by
        rw [aCons_eq, eNewF_eq, aCons_eq, i1]; rfl) (by
        show (if (es.map D.int).length + 2 ≤ 1000000 then some (D.non, [some (es.map D.int ++ [.int (b.getD w (0, 0)).1, .int (b.getD w (0, 0)).2])]) else none) = _
        rw [if_pos (by rw [List.length_map]; omega), List.map_append]
        rfl)]
      rfl)
  subst he hS
  refine ⟨es, by rw [hl, List.length_map]; omega, ?_⟩
  have l1 : law_ends_l1 [some (encH false n bs), some (.int w), some (.ref 0), none] [some (([] : List Int).map .int)] = some (.nx, [some (encH false n bs), some (.int w), some (.ref 0), z3], [some (es.map .int)]) := by
    unfold law_ends_l1
    rw [sFor_eq, e]
    exact e2
  unfold sem_law_ends
  rw [runP_eq]
  simp only [List.length_cons, List.length_nil, List.map_cons, List.map_nil, Nat.reduceAdd, Nat.reduceSub, List.replicate_succ, List.replicate_zero, List.cons_append, List.nil_append, if_true]
  unfold f_law_ends
  rw [seq_nx s1, seq_nx l1]
  show den 0 [some (es.map D.int)] (.ref 0) = _
  rw [den, if_neg (by omega)]
  show (if pureL (es.map D.int) = true then _ else _) = _
  rw [if_pos (pureL_ints es)]
theorem heap_eq {n : Nat} {bs : List (List St2)} (m m' : Bool) (S : Store) : eqP true S (encH m n bs) (encH m' n bs) = some (.bl false) := eqP_same 4 (seeP_encH S m n bs) (seeP_encH S m' n bs) (lev_heap 0 n bs) (by decide)
theorem right_b1 {n : Nat} {bs : List (List St2)} (g : Good n bs) (h2 : 2 ≤ n) {w : Nat} (hw : w < n) (x : Int) (z5 z6 : Option D) (S : Store) :
    law_right_b1 [some (encH false n bs), some (encH false n bs), some (.int w), some (.int x), some (encK true n (cutF bs w x)), z5, z6] S = some (.nx, [some (encH false n bs), some (encH false n bs), some (.int w), some (.int x), some (encK true n (cutF bs w x)), z5, some (.tup [.int ((n : Int) - 1), .ref S.length])], S ++ [some ((cutF bs w x).map encB ++ [.non])]) := by
  have n3 := g.n3
  have h1 := cut_at_ok g h2 hw x
  have nr := cut_near g w x
  have hf := fit_heap (by omega) nr
  generalize cutF bs w x = cs at *
  have s1 : (sSet 6 (eThawP sem_cut_at (aCons (eVar 0) (aCons (eVar 2) (aCons (eVar 3) aNil))))) [some (encH false n bs), some (encH false n bs), some (.int w), some (.int x), some (encK true n cs), z5, z6] S = some (.nx, [some (encH false n bs), some (encH false n bs), some (.int w), some (.int x), some (encK true n cs), z5, some (.tup [.int ((n : Int) - 1), .ref S.length])], S ++ [some (cs.map encB)]) := by
    rw [sSet_eq, thawP_of (d' := .tup [.int ((n : Int) - 1), .ref S.length]) (cs := cs.map encB) (callP_of (ds := [encH false n bs, .int w, .int x]) (es := [encH false n bs, .int w, .int x]) (S' := S) rfl (by simp [pureL, pureD, encH]) (by simp [ageL, age, encH]) h1) (by
      simp [thaw, thawL, encK, flatD, flatL, flat_encBs cs])]
    rfl
  have hS := end0 S (some (cs.map encB)) []
  have see1 : seeP (S ++ [some (cs.map encB)]) (.tup [.int ((n : Int) - 1), .ref S.length]) = some (.tuple [.int (n - 1 : Nat), .list (cs.map pB)]) := by
    rw [← seeP_encH (S ++ [some (cs.map encB)]) true (n - 1) cs, ← encK_is (by omega) true cs]
    have d3 : den 0 (S ++ [some (cs.map encB)]) (.ref S.length) = some (.lst true (cs.map encB)) := by
      rw [den, if_neg (by omega), hS]
      show (if pureL (cs.map encB) = true then _ else _) = _
      rw [if_pos (flatL_pure (flat_encBs _))]
    have d4 : den 0 (S ++ [some (cs.map encB)]) (.lst true (cs.map encB)) = some (.lst true (cs.map encB)) := by
      rw [den, pure_denL 0 _ (flatL_pure (flat_encBs _))]; rfl
    have q0 : den 0 (S ++ [some (cs.map encB)]) (.int ((n : Int) - 1)) = some (.int ((n : Int) - 1)) := by rw [den]
    unfold seeP encK
    rw [den, den]
    simp only [denL, q0, d3, d4]
  have see2 : seeP (S ++ [some (cs.map encB)]) (encK true n cs) = some (.tuple [.int (n - 1 : Nat), .list (cs.map pB)]) := by
    rw [encK_is (by omega), seeP_encH]
  have r1 := repr_of see1 hf (by decide) (by decide)
  have r2 := repr_of see2 hf (by decide) (by decide)
  generalize PyData.shown (.tuple [.int (n - 1 : Nat), .list (cs.map pB)]) = t at *
  have k1 : tVal (eOp (oEqS true) (eCB bRepr (aCons (eVar 6) aNil)) (eCB bRepr (aCons (eVar 4) aNil))) [some (encH false n bs), some (encH false n bs), some (.int w), some (.int x), some (encK true n cs), z5, some (.tup [.int ((n : Int) - 1), .ref S.length])] (S ++ [some (cs.map encB)]) = some (false, S ++ [some (cs.map encB)]) := by
    have v6 : eCB bRepr (aCons (eVar 6) aNil) [some (encH false n bs), some (encH false n bs), some (.int w), some (.int x), some (encK true n cs), z5, some (.tup [.int ((n : Int) - 1), .ref S.length])] (S ++ [some (cs.map encB)]) = some (.str t, S ++ [some (cs.map encB)]) := by
      show Option.map _ (bRepr (S ++ [some (cs.map encB)]) [.tup [.int ((n : Int) - 1), .ref S.length]]) = _
      rw [r1]; rfl
    have v4 : eCB bRepr (aCons (eVar 4) aNil) [some (encH false n bs), some (encH false n bs), some (.int w), some (.int x), some (encK true n cs), z5, some (.tup [.int ((n : Int) - 1), .ref S.length])] (S ++ [some (cs.map encB)]) = some (.str t, S ++ [some (cs.map encB)]) := by
      show Option.map _ (bRepr (S ++ [some (cs.map encB)]) [encK true n cs]) = _
      rw [r2]; rfl
    rw [tVal_eq, eOp_eq, v6, Option.bind_some, v4, Option.bind_some]
    show (some (true ^^ decide (t = t), S ++ [some (cs.map encB)]) : Option (Bool × Store)) = _
    rw [decide_eq_true rfl]; rfl
  have k2 : tVal (eOp (oEq true) (eVar 0) (eVar 1)) [some (encH false n bs), some (encH false n bs), some (.int w), some (.int x), some (encK true n cs), z5, some (.tup [.int ((n : Int) - 1), .ref S.length])] (S ++ [some (cs.map encB)]) = some (false, S ++ [some (cs.map encB)]) := by
    have he' : oEq true (S ++ [some (cs.map encB)]) (encH false n bs) (encH false n bs) = some (.bl false) := heap_eq false false _
    show (Option.map _ (oEq true (S ++ [some (cs.map encB)]) (encH false n bs) (encH false n bs))).bind _ = _
    rw [he']; rfl
  have s2 : (sIf (VS.tOr (tVal (eOp (oEqS true) (eCB bRepr (aCons (eVar 6) aNil)) (eCB bRepr (aCons (eVar 4) aNil)))) (tVal (eOp (oEq true) (eVar 0) (eVar 1)))) (sRet (eC (.bl false))) sNil) [some (encH false n bs), some (encH false n bs), some (.int w), some (.int x), some (encK true n cs), z5, some (.tup [.int ((n : Int) - 1), .ref S.length])] (S ++ [some (cs.map encB)]) = some (.nx, [some (encH false n bs), some (encH false n bs), some (.int w), some (.int x), some (encK true n cs), z5, some (.tup [.int ((n : Int) - 1), .ref S.length])], S ++ [some (cs.map encB)]) := by
    rw [if_no (by
      rw [tOr_eq, k1]
      simp only [Option.bind_some, Bool.false_eq_true, if_false]
      exact k2)]
    rfl
  have s3 : (sExp (eMeth mAppend (eOp oIx (eVar 6) (eC (.int 1))) (aCons (eC .non) aNil))) [some (encH false n bs), some (encH false n bs), some (.int w), some (.int x), some (encK true n cs), z5, some (.tup [.int ((n : Int) - 1), .ref S.length])] (S ++ [some (cs.map encB)]) = some (.nx, [some (encH false n bs), some (encH false n bs), some (.int w), some (.int x), some (encK true n cs), z5, some (.tup [.int ((n : Int) - 1), .ref S.length])], S ++ [some (cs.map encB ++ [.non])]) := by
    rw [sExp_eq, meth_of (d := .ref S.length) (cs := cs.map encB) (ds := [.non]) (r := .non) (S1 := S ++ [some (cs.map encB)]) (S2 := S ++ [some (cs.map encB)]) (S3 := S ++ [some (cs.map encB ++ [.non])]) rfl (by rw [VS.listOf, hS]; rfl) rfl (by
      unfold mAppend
      simp only [hS]
      rw [if_pos (by rw [List.length_map]; have := nr.few; omega), set0])]
    rfl
  unfold law_right_b1
  rw [seq_nx s1, seq_nx s2, s3]
theorem right_ok {n : Nat} {bs : List (List St2)} (g : Good n bs) (h2 : 2 ≤ n) {w : Nat} (hw : w < n) (x : Int) : sem_law_right [encH false n bs, encH false n bs, .int w, .int x] = some (.bl true) := by
  have h1 := due_ok g hw x
  have s1 : (sSet 4 (eCallP sem_law_due (aCons (eVar 1) (aCons (eVar 2) (aCons (eVar 3) aNil))))) [some (encH false n bs), some (encH false n bs), some (.int w), some (.int x), none, none, none] [] = some (.nx, [some (encH false n bs), some (encH false n bs), some (.int w), some (.int x), some (encK true n (cutF bs w x)), none, none], []) := by
    rw [sSet_eq, callP_of (ds := [encH false n bs, .int w, .int x]) (es := [encH false n bs, .int w, .int x]) (S' := []) rfl (by simp [pureL, pureD, encH]) (by simp [ageL, age, encH]) h1]; rfl
  have l1 : ∃ env' S', law_right_l1 [some (encH false n bs), some (encH false n bs), some (.int w), some (.int x), some (encK true n (cutF bs w x)), none, none] [] = some (.nx, env', S') := by
    have e : iRange1 (aCons (eC (.int 2)) aNil) [some (encH false n bs), some (encH false n bs), some (.int w), some (.int x), some (encK true n (cutF bs w x)), none, none] [] = some ((upD 0 2, []), []) := range1 (j := 2) 2 rfl (by decide) (by decide) (by decide)
    unfold law_right_l1
    rw [sFor_eq, e]
    obtain ⟨env', S', e2, _⟩ := loop_all (w := []) (g := Pat.sem (.nm 5)) (b := law_right_b1) (ds := upD 0 2) (env := [some (encH false n bs), some (encH false n bs), some (.int w), some (.int x), some (encK true n (cutF bs w x)), none, none]) (S := [])
      (fun i env S => ∃ z5 z6, env = [some (encH false n bs), some (encH false n bs), some (.int w), some (.int x), some (encK true n (cutF bs w x)), z5, z6]) ⟨none, none, rfl⟩ (fun i env S _ => by simp) (fun i d env S hd q => by
        obtain ⟨z5, z6, he⟩ := q
        subst he
        exact ⟨_, pat_nm _ _ _, _, _, right_b1 g h2 hw x _ _ S, _, _, rfl⟩)
    exact ⟨env', S', e2⟩
  obtain ⟨env', S', l1⟩ := l1
  unfold sem_law_right
  rw [runP_eq]
  simp only [List.length_cons, List.length_nil, List.map_cons, List.map_nil, Nat.reduceAdd, Nat.reduceSub, List.replicate_succ, List.replicate_zero, List.cons_append, List.nil_append, if_true]
  unfold f_law_right
  rw [seq_nx s1, seq_nx l1]
  simp [sRet_eq, eC_eq, den, -List.map_map, -Option.map_bind]
end W12
end
section
set_option Elab.async false
set_option maxRecDepth 10000
set_option linter.all false
set_option maxHeartbeats 4000000
namespace W12
open PySem L2 VS
theorem take_end {x y z c r x' z' : Int} {a : ESem} {env : VS.Env} {A : Store} (h : sem_law_take [x, y, z] [.int c] = some (.int r, [x', y, z'])) (h0 : env[2]? = some (some (.ref A.length))) (ha : a env (A ++ [some [.int x, .int y, .int z]]) = some (.int c, A ++ [some [.int x, .int y, .int z]])) : eCallM sem_law_take (aCons (eVar 2) (aCons a aNil)) env (A ++ [some [.int x, .int y, .int z]]) = some (.int r, A ++ [some [.int x', .int y, .int z']]) := by
  have v0 : eVar 2 env (A ++ [some [.int x, .int y, .int z]]) = some (.ref A.length, A ++ [some [.int x, .int y, .int z]]) := by rw [eVar_eq, h0]; rfl
  rw [callM_of (ns := [x, y, z]) (rest := [.int c]) (es := [.int c]) (i := A.length) (S' := A ++ [some [.int x, .int y, .int z]]) (by rw [aCons_eq, v0, Option.bind_some, aCons_eq, ha]; rfl) (end0 A _ []) (by simp [pureL, pureD]) (by simp [ageL, age]) h, set0]
  rfl
theorem right_at {n : Nat} {bs : List (List St2)} (g : Good n bs) (h2 : 2 ≤ n) {w : Nat} (hw : w < n) {e : VS.Env} {S : Store} {a : ESem} {x : Int} (h6 : e[6]? = some (some (encH true n bs))) (h7 : e[7]? = some (some (encH true n bs))) (h8 : e[8]? = some (some (.int w))) (ha : a e S = some (.int x, S)) : (eCallP sem_law_right (aCons (eVar 7) (aCons (eVar 6) (aCons (eVar 8) (aCons a aNil))))) e S = some (.bl true, S) := by
  have v6 : eVar 6 e S = some (encH true n bs, S) := by rw [eVar_eq, h6]; rfl
  have v7 : eVar 7 e S = some (encH true n bs, S) := by rw [eVar_eq, h7]; rfl
  have v8 : eVar 8 e S = some (.int w, S) := by rw [eVar_eq, h8]; rfl
  exact callP_of (ds := [encH true n bs, encH true n bs, .int w, .int x]) (es := [encH false n bs, encH false n bs, .int w, .int x]) (S' := S) (by rw [aCons_eq, v7, Option.bind_some, aCons_eq, v6, Option.bind_some, aCons_eq, v8, Option.bind_some, aCons_eq, ha]; rfl) (by simp [pureL, pureD, encH, flatL_pure (flat_encBs bs)]) (by simp [ageL, age, encH]) (right_ok g h2 hw x)
theorem law_l1_ok {n : Nat} {bs : List (List St2)} (g : Good n bs) (h2 : 2 ≤ n) {w : Nat} (hw : w < n) (e0 e1 e2 e3 e4 e5 z10 : Option D) (ns : List Int) (S : Store) : ∃ y10, law_l1 [e0, e1, e2, e3, e4, e5, some (encH true n bs), some (encH true n bs), some (.int w), some (.lst true (ns.map .int)), z10] S = some (.nx, [e0, e1, e2, e3, e4, e5, some (encH true n bs), some (encH true n bs), some (.int w), some (.lst true (ns.map .int)), y10], S) := by
  have e : iSeq (eVar 9) [e0, e1, e2, e3, e4, e5, some (encH true n bs), some (encH true n bs), some (.int w), some (.lst true (ns.map .int)), z10] S = some ((ns.map .int, []), S) := rfl
  unfold law_l1
  rw [sFor_eq, e]
  obtain ⟨env', S', e6, hS, y10, he⟩ := loop_all (w := []) (g := Pat.sem (.nm 10)) (b := law_b1) (ds := ns.map .int) (env := [e0, e1, e2, e3, e4, e5, some (encH true n bs), some (encH true n bs), some (.int w), some (.lst true (ns.map .int)), z10]) (S := S)
    (fun _ env T => T = S ∧ ∃ y10, env = [e0, e1, e2, e3, e4, e5, some (encH true n bs), some (encH true n bs), some (.int w), some (.lst true (ns.map .int)), y10]) ⟨rfl, z10, rfl⟩ (fun i env S _ => by simp) (fun i d env T hd q => by
      obtain ⟨hS, y10, he⟩ := q
      subst hS he
      rw [List.getElem?_map] at hd
      obtain ⟨x, hx, rfl⟩ := Option.map_eq_some_iff.mp hd
      refine ⟨[e0, e1, e2, e3, e4, e5, some (encH true n bs), some (encH true n bs), some (.int w), some (.lst true (ns.map .int)), some (.int x)], by rw [pat_nm]; rfl, [e0, e1, e2, e3, e4, e5, some (encH true n bs), some (encH true n bs), some (.int w), some (.lst true (ns.map .int)), some (.int x)], T, ?_, rfl, _, rfl⟩
      have r1 := right_at g h2 hw (e := [e0, e1, e2, e3, e4, e5, some (encH true n bs), some (encH true n bs), some (.int w), some (.lst true (ns.map .int)), some (.int x)]) (S := T) (a := eVar 10) (x := x) rfl rfl rfl rfl
      have r2 := right_at g h2 hw (e := [e0, e1, e2, e3, e4, e5, some (encH true n bs), some (encH true n bs), some (.int w), some (.lst true (ns.map .int)), some (.int x)]) (S := T) (a := eOp oSub (eVar 10) (eC (.int 1))) (x := x - 1) rfl rfl rfl rfl
      unfold law_b1
      rw [if_no (by
        rw [tOr_eq, tNot_eq, tVal_eq, r1]
        simp only [Option.bind_some, Bool.not_true, Bool.false_eq_true, if_false]
        rw [tNot_eq, tVal_eq, r2]; rfl)]
      rfl)
  subst hS he
  exact ⟨y10, e6⟩
theorem own_ok {n : Nat} {bs : List (List St2)} : sem_law_own [encH false n bs] = some (encH true n bs) := by
  simp [sem_law_own, f_law_own, sRet_eq, eVar_eq, eC_eq, eOp_eq, aNil_eq, aCons_eq, eTup_eq, eNewF_eq, oIx, nList, VS.listOf, seqOf, runP_eq, den, denL, -List.map_map, -Option.map_bind, encH, flatL_pure (flat_encBs bs)]
theorem law_b2_ok {n m : Nat} (hn : n = 2 ∨ n = 3) {bs : List (List St2)} (g : Good n bs) {mss : List (List Int)} (hl : mss.length = n) (hk : ∀ ms ∈ mss, Mk m ms) (hm : m ≤ 40) (e0 e1 e4 : Option D) (x y z : Int) (A : Store) (w : Nat) (hw : w < n) (z9 z10 : Option D) : ∃ (x' z' : Int) (y9 y10 : Option D),
    law_b2 [e0, e1, some (.ref A.length), some (.int n), e4, some (.lst true (mss.map encI)), some (encH true n bs), some (encH true n bs), some (.int w), z9, z10] (A ++ [some [.int x, .int y, .int z]]) =
    some (.nx, [e0, e1, some (.ref A.length), some (.int n), e4, some (.lst true (mss.map encI)), some (encH true n bs), some (encH true n bs), some (.int w), y9, y10], A ++ [some [.int x', .int y, .int z']]) := by
  obtain ⟨es, es1, es2⟩ := ends_ok g hw
  have hw' : w < mss.length := by omega
  have hk' := hk mss[w] (List.getElem_mem hw')
  have hat : atI (mss.map encI) (w : Int) = some (encI mss[w]) := atI_nat (by rw [List.getElem?_map, List.getElem?_eq_getElem hw']; rfl)
  have hlen := hk'.len
  generalize mss[w] = ms at *
  obtain ⟨r1, x2, z2, t1, r10, r11⟩ := take_ok x y z ms.length (by omega) (by omega)
  obtain ⟨r2, x3, z3, t2, _, _⟩ := take_ok x2 y z2 9 (by decide) (by decide)
  have hv := at_mark hk' r10 (by omega)
  generalize ms.getD r1.toNat 0 = v at *
  have s1 : (sSet 9 (eCallP sem_law_ends (aCons (eVar 6) (aCons (eVar 8) aNil)))) [e0, e1, some (.ref A.length), some (.int n), e4, some (.lst true (mss.map encI)), some (encH true n bs), some (encH true n bs), some (.int w), z9, z10] (A ++ [some [.int x, .int y, .int z]]) = some (.nx, [e0, e1, some (.ref A.length), some (.int n), e4, some (.lst true (mss.map encI)), some (encH true n bs), some (encH true n bs), some (.int w), some (.lst true (es.map .int)), z10], A ++ [some [.int x, .int y, .int z]]) := by
    rw [sSet_eq, callP_of (ds := [encH true n bs, .int w]) (es := [encH false n bs, .int w]) (S' := A ++ [some [.int x, .int y, .int z]]) rfl (by simp [pureL, pureD, encH, flatL_pure (flat_encBs bs)]) (by simp [ageL, age, encH]) es2]; rfl
  have i5 : ∀ S : Store, eOp oIx (eVar 5) (eVar 8) [e0, e1, some (.ref A.length), some (.int n), e4, some (.lst true (mss.map encI)), some (encH true n bs), some (encH true n bs), some (.int w), some (.lst true (es.map .int)), z10] S = some (encI ms, S) := fun S => by
    show Option.map _ (atI (mss.map encI) (w : Int)) = _
    rw [hat]; rfl
  have L5 : ∀ S : Store, eCB bLen (aCons (eOp oIx (eVar 5) (eVar 8)) aNil) [e0, e1, some (.ref A.length), some (.int n), e4, some (.lst true (mss.map encI)), some (encH true n bs), some (encH true n bs), some (.int w), some (.lst true (es.map .int)), z10] S = some (.int ms.length, S) := fun S => by
    rw [eCB_eq, aCons_eq, i5]
    show (some (D.int ((ms.map D.int).length : Nat), S) : Option (D × Store)) = _
    rw [List.length_map]
  have q1 := take_end (A := A) (env := [e0, e1, some (.ref A.length), some (.int n), e4, some (.lst true (mss.map encI)), some (encH true n bs), some (encH true n bs), some (.int w), some (.lst true (es.map .int)), z10]) t1 rfl (L5 _)
  have q2 := take_end (A := A) (env := [e0, e1, some (.ref A.length), some (.int n), e4, some (.lst true (mss.map encI)), some (encH true n bs), some (encH true n bs), some (.int w), some (.lst true (es.map .int)), z10]) (a := eC (.int 9)) t2 rfl rfl
  have a1 : eOp oIx (eOp oIx (eVar 5) (eVar 8)) (eCallM sem_law_take (aCons (eVar 2) (aCons (eCB bLen (aCons (eOp oIx (eVar 5) (eVar 8)) aNil)) aNil))) [e0, e1, some (.ref A.length), some (.int n), e4, some (.lst true (mss.map encI)), some (encH true n bs), some (encH true n bs), some (.int w), some (.lst true (es.map .int)), z10] (A ++ [some [.int x, .int y, .int z]]) = some (.int v, A ++ [some [.int x2, .int y, .int z2]]) := by
    rw [eOp_eq, i5, Option.bind_some, q1, Option.bind_some]
    show Option.map _ (atI (ms.map D.int) r1) = _
    rw [hv]; rfl
  have p39 : ∀ S : Store, eOp oPow (eC (.int 10)) (eC (.int 39)) [e0, e1, some (.ref A.length), some (.int n), e4, some (.lst true (mss.map encI)), some (encH true n bs), some (encH true n bs), some (.int w), some (.lst true (es.map .int)), z10] S = some (.int (10 ^ 39), S) := fun S => pow10 39 (by decide) _ S
  have a3 : ∀ S : Store, eOp oSub (eC (.int 0)) (eOp oPow (eC (.int 10)) (eC (.int 39))) [e0, e1, some (.ref A.length), some (.int n), e4, some (.lst true (mss.map encI)), some (encH true n bs), some (encH true n bs), some (.int w), some (.lst true (es.map .int)), z10] S = some (.int (0 - 10 ^ 39), S) := fun S => by
    rw [eOp_eq, eC_eq, Option.bind_some, p39]; rfl
  have s2 : (sSet 9 (eOp oAdd (eVar 9) (eFrz (aCons (eOp oIx (eOp oIx (eVar 5) (eVar 8)) (eCallM sem_law_take (aCons (eVar 2) (aCons (eCB bLen (aCons (eOp oIx (eVar 5) (eVar 8)) aNil)) aNil)))) (aCons (eOp oPow (eC (.int 10)) (eC (.int 39))) (aCons (eOp oSub (eC (.int 0)) (eOp oPow (eC (.int 10)) (eC (.int 39)))) (aCons (eCallM sem_law_take (aCons (eVar 2) (aCons (eC (.int 9)) aNil))) aNil))))))) [e0, e1, some (.ref A.length), some (.int n), e4, some (.lst true (mss.map encI)), some (encH true n bs), some (encH true n bs), some (.int w), some (.lst true (es.map .int)), z10] (A ++ [some [.int x, .int y, .int z]]) = some (.nx, [e0, e1, some (.ref A.length), some (.int n), e4, some (.lst true (mss.map encI)), some (encH true n bs), some (encH true n bs), some (.int w), some (.lst true ((es ++ [v, 10 ^ 39, 0 - 10 ^ 39, r2]).map .int)), z10], A ++ [some [.int x3, .int y, .int z3]]) := by
    have v9 : ∀ S : Store, eVar 9 [e0, e1, some (.ref A.length), some (.int n), e4, some (.lst true (mss.map encI)), some (encH true n bs), some (encH true n bs), some (.int w), some (.lst true (es.map .int)), z10] S = some (.lst true (es.map .int), S) := fun S => rfl
    rw [sSet_eq, eOp_eq, v9, Option.bind_some, eFrz_eq, aCons_eq, a1, Option.bind_some, aCons_eq, p39, Option.bind_some, aCons_eq, a3, Option.bind_some, aCons_eq, q2]
    show (Option.map _ (if (es.map D.int).length + 4 ≤ 1000000 then some (D.lst true (es.map D.int ++ [v, 10 ^ 39, 0 - 10 ^ 39, r2].map D.int)) else none)).bind _ = _
    rw [if_pos (by rw [List.length_map]; omega), ← List.map_append]
    rfl
  obtain ⟨y10, l1⟩ := law_l1_ok g (by omega) hw e0 e1 (some (.ref A.length)) (some (.int n)) e4 (some (.lst true (mss.map encI))) z10 (es ++ [v, 10 ^ 39, 0 - 10 ^ 39, r2]) (A ++ [some [.int x3, .int y, .int z3]])
  refine ⟨x3, z3, some (.lst true ((es ++ [v, 10 ^ 39, 0 - 10 ^ 39, r2]).map .int)), y10, ?_⟩
  unfold law_b2
  rw [seq_nx s1, seq_nx s2]
  exact l1
theorem law_l2_ok {n m : Nat} (hn : n = 2 ∨ n = 3) {sm : List (List St2)} {mss : List (List Int)} (md : Made n m sm mss) (e0 e1 : Option D) (x y z : Int) (A : Store) (z8 z9 z10 : Option D) : ∃ (x' z' : Int) (y8 y9 y10 : Option D),
    law_l2 [e0, e1, some (.ref A.length), some (.int n), some (.lst true (sm.map encB)), some (.lst true (mss.map encI)), some (encH true n (sm.map (placed mss))), some (encH true n (sm.map (placed mss))), z8, z9, z10] (A ++ [some [.int x, .int y, .int z]]) =
    some (.nx, [e0, e1, some (.ref A.length), some (.int n), some (.lst true (sm.map encB)), some (.lst true (mss.map encI)), some (encH true n (sm.map (placed mss))), some (encH true n (sm.map (placed mss))), y8, y9, y10], A ++ [some [.int x', .int y, .int z']]) := by
  have g := md.good (by omega)
  generalize hbs : sm.map (placed mss) = bs at *
  have e : iRange1 (aCons (eVar 3) aNil) [e0, e1, some (.ref A.length), some (.int n), some (.lst true (sm.map encB)), some (.lst true (mss.map encI)), some (encH true n bs), some (encH true n bs), z8, z9, z10] (A ++ [some [.int x, .int y, .int z]]) = some ((upD 0 n, []), A ++ [some [.int x, .int y, .int z]]) := range1 _ rfl (by simp) (by omega) (by omega)
  unfold law_l2
  rw [sFor_eq, e]
  obtain ⟨env', S', e6, x', z', y8, y9, y10, hS, he⟩ := loop_all (w := []) (g := Pat.sem (.nm 8)) (b := law_b2) (ds := upD 0 n) (env := [e0, e1, some (.ref A.length), some (.int n), some (.lst true (sm.map encB)), some (.lst true (mss.map encI)), some (encH true n bs), some (encH true n bs), z8, z9, z10]) (S := A ++ [some [.int x, .int y, .int z]])
    (fun _ env T => ∃ (x' z' : Int) (y8 y9 y10 : Option D), T = A ++ [some [.int x', .int y, .int z']] ∧ env = [e0, e1, some (.ref A.length), some (.int n), some (.lst true (sm.map encB)), some (.lst true (mss.map encI)), some (encH true n bs), some (encH true n bs), y8, y9, y10]) ⟨x, z, z8, z9, z10, rfl, rfl⟩ (fun i env S _ => by simp) (fun w d env T hd q => by
      obtain ⟨x', z', y8, y9, y10, hS, he⟩ := q
      obtain ⟨hw, rfl⟩ := upD_get hd
      subst hS he
      rw [Int.zero_add]
      obtain ⟨x2, z2, w9, w10, e7⟩ := law_b2_ok hn g md.len md.mks md.big e0 e1 (some (.lst true (sm.map encB))) x' y z' A w hw y9 y10
      exact ⟨_, pat_nm _ _ _, _, _, e7, x2, z2, _, _, _, rfl, rfl⟩)
  subst hS he
  exact ⟨x', z', y8, y9, y10, e6⟩
theorem pureL_H (n : Nat) (bs : List (List St2)) : pureL [encH true n bs] = true := by simp [pureL, pureD, encH, flatL_pure (flat_encBs bs)]
theorem ageL_H (n : Nat) (bs : List (List St2)) : ageL [encH true n bs] = [encH false n bs] := by simp [ageL, age, encH]
theorem turn_ok (ns : List Int) (c : Int) (z2 z3 z4 z5 z6 z7 z8 z9 z10 : Option D) (S : Store) : ∃ (env' : VS.Env) (S' : Store) (y2 y3 y4 y5 y6 y7 y8 y9 y10 : Option D), env' = [some (.scr ns), some (.int c), y2, y3, y4, y5, y6, y7, y8, y9, y10] ∧ law_b3 [some (.scr ns), some (.int c), z2, z3, z4, z5, z6, z7, z8, z9, z10] S = some (.nx, env', S') := by
  obtain ⟨x0, p0⟩ := pot_ok c
  obtain ⟨r, x1, z1, t1, r0, r1⟩ := take_ok x0 c 0 2 (by decide) (by decide)
  obtain ⟨n, hn, hn2⟩ : ∃ n : Nat, (2 + r : Int) = n ∧ (n = 2 ∨ n = 3) := ⟨(2 + r).toNat, by omega, by omega⟩
  obtain ⟨m, sm, mss, x2, z2', h1, md⟩ := heap_ok x1 c z1 n ([10, 6].getD (n - 2) 0) (by omega) (by rcases hn2 with rfl | rfl <;> decide) (by rcases hn2 with rfl | rfl <;> decide)
  have s1 : (sSet 2 (eThawP sem_law_pot (aCons (eVar 1) aNil))) [some (.scr ns), some (.int c), z2, z3, z4, z5, z6, z7, z8, z9, z10] S = some (.nx, [some (.scr ns), some (.int c), some (.ref S.length), z3, z4, z5, z6, z7, z8, z9, z10], S ++ [some [.int x0, .int c, .int 0]]) := by
    rw [sSet_eq, thawP_of (d' := .ref S.length) (cs := [.int x0, .int c, .int 0]) (callP_of (ds := [.int c]) (es := [.int c]) (S' := S) rfl (by simp [pureL, pureD]) (by simp [ageL, age]) p0) (by simp [thaw, flatL, flatD])]
    rfl
  have q1 := take_end (A := S) (env := [some (.scr ns), some (.int c), some (.ref S.length), z3, z4, z5, z6, z7, z8, z9, z10]) (a := eC (.int 2)) t1 rfl rfl
  have s2 : (sSet 3 (eOp oAdd (eC (.int 2)) (eCallM sem_law_take (aCons (eVar 2) (aCons (eC (.int 2)) aNil))))) [some (.scr ns), some (.int c), some (.ref S.length), z3, z4, z5, z6, z7, z8, z9, z10] (S ++ [some [.int x0, .int c, .int 0]]) = some (.nx, [some (.scr ns), some (.int c), some (.ref S.length), some (.int n), z4, z5, z6, z7, z8, z9, z10], S ++ [some [.int x1, .int c, .int z1]]) := by
    rw [sSet_eq, eOp_eq, eC_eq, Option.bind_some, q1, Option.bind_some, ← hn]; rfl
  have hix : eOp oIx (eFrz (aCons (eC (.int 10)) (aCons (eC (.int 6)) aNil))) (eOp oSub (eVar 3) (eC (.int 2))) [some (.scr ns), some (.int c), some (.ref S.length), some (.int n), z4, z5, z6, z7, z8, z9, z10] (S ++ [some [.int x1, .int c, .int z1]]) = some (.int ([10, 6].getD (n - 2) 0 : Nat), S ++ [some [.int x1, .int c, .int z1]]) := by
    rcases hn2 with rfl | rfl <;> rfl
  have hc : eCallM sem_law_heap (aCons (eVar 2) (aCons (eVar 3) (aCons (eOp oIx (eFrz (aCons (eC (.int 10)) (aCons (eC (.int 6)) aNil))) (eOp oSub (eVar 3) (eC (.int 2)))) aNil))) [some (.scr ns), some (.int c), some (.ref S.length), some (.int n), z4, z5, z6, z7, z8, z9, z10] (S ++ [some [.int x1, .int c, .int z1]]) = some (.tup [.lst true (sm.map encB), .lst true (mss.map encI), encH true n (sm.map (placed mss))], S ++ [some [.int x2, .int c, .int z2']]) := by
    have v2 : eVar 2 [some (.scr ns), some (.int c), some (.ref S.length), some (.int n), z4, z5, z6, z7, z8, z9, z10] (S ++ [some [.int x1, .int c, .int z1]]) = some (.ref S.length, S ++ [some [.int x1, .int c, .int z1]]) := rfl
    have v3 : eVar 3 [some (.scr ns), some (.int c), some (.ref S.length), some (.int n), z4, z5, z6, z7, z8, z9, z10] (S ++ [some [.int x1, .int c, .int z1]]) = some (.int n, S ++ [some [.int x1, .int c, .int z1]]) := rfl
    rw [callM_of (ns := [x1, c, z1]) (rest := [.int n, .int ([10, 6].getD (n - 2) 0 : Nat)]) (es := [.int n, .int ([10, 6].getD (n - 2) 0 : Nat)]) (i := S.length) (S' := S ++ [some [.int x1, .int c, .int z1]]) (by rw [aCons_eq, v2, Option.bind_some, aCons_eq, v3, Option.bind_some, aCons_eq, hix]; rfl) (end0 S _ []) (by simp [pureL, pureD]) (by simp [ageL, age]) h1, set0]
    rfl
  have s3 : (sAsg (eCallM sem_law_heap (aCons (eVar 2) (aCons (eVar 3) (aCons (eOp oIx (eFrz (aCons (eC (.int 10)) (aCons (eC (.int 6)) aNil))) (eOp oSub (eVar 3) (eC (.int 2)))) aNil)))) (Pat.sem (.tp [(.nm 4), (.nm 5), (.nm 6)]))) [some (.scr ns), some (.int c), some (.ref S.length), some (.int n), z4, z5, z6, z7, z8, z9, z10] (S ++ [some [.int x1, .int c, .int z1]]) = some (.nx, [some (.scr ns), some (.int c), some (.ref S.length), some (.int n), some (.lst true (sm.map encB)), some (.lst true (mss.map encI)), some (encH true n (sm.map (placed mss))), z7, z8, z9, z10], S ++ [some [.int x2, .int c, .int z2']]) := by
    rw [sAsg_eq, hc]
    simp [pat_nm, pat_tp, pats_nil, pats_cons, -List.map_map, -Option.map_bind]
  have s4 : (sSet 7 (eCallP sem_law_own (aCons (eVar 6) aNil))) [some (.scr ns), some (.int c), some (.ref S.length), some (.int n), some (.lst true (sm.map encB)), some (.lst true (mss.map encI)), some (encH true n (sm.map (placed mss))), z7, z8, z9, z10] (S ++ [some [.int x2, .int c, .int z2']]) = some (.nx, [some (.scr ns), some (.int c), some (.ref S.length), some (.int n), some (.lst true (sm.map encB)), some (.lst true (mss.map encI)), some (encH true n (sm.map (placed mss))), some (encH true n (sm.map (placed mss))), z8, z9, z10], S ++ [some [.int x2, .int c, .int z2']]) := by
    rw [sSet_eq, callP_of (ds := [encH true n (sm.map (placed mss))]) (es := [encH false n (sm.map (placed mss))]) (S' := S ++ [some [.int x2, .int c, .int z2']]) rfl (pureL_H ..) (ageL_H ..) own_ok]; rfl
  obtain ⟨x5, z5', y8, y9, y10, l2⟩ := law_l2_ok hn2 md (some (.scr ns)) (some (.int c)) x2 c z2' S z8 z9 z10
  refine ⟨[some (.scr ns), some (.int c), some (.ref S.length), some (.int n), some (.lst true (sm.map encB)), some (.lst true (mss.map encI)), some (encH true n (sm.map (placed mss))), some (encH true n (sm.map (placed mss))), y8, y9, y10], S ++ [some [.int x5, .int c, .int z5']], _, _, _, _, _, _, _, _, _, rfl, ?_⟩
  unfold law_b3
  rw [seq_nx s1, seq_nx s2, seq_nx s3, seq_nx s4]
  exact l2
theorem law_true : ∀ ns : List Int, ns.length ≤ 63 → sem_law [.scr ns] = some (.bl true) := by
  intro ns hns
  obtain ⟨l, e⟩ : ∃ l : List Int, iSeq (eOp oAdd (eSl oSl (eVar 0) oNone (oSome (eC (.int 4)))) (eFrz (aCons (eCB bLen (aCons (eVar 0) aNil)) aNil))) [some (.scr ns), none, none, none, none, none, none, none, none, none, none] [] = some ((l.map .int, []), []) := by
    obtain ⟨cs, hc, hl⟩ : ∃ cs : List Int, cut (ns.map D.int) none (some 4) = cs.map D.int ∧ cs.length ≤ 63 := by
      unfold cut
      rw [← List.map_drop, ← List.map_take]
      exact ⟨_, rfl, by rw [List.length_take, List.length_drop]; omega⟩
    have hl2 : cs.length + 1 ≤ 1000000 := by omega
    refine ⟨cs ++ [(ns.length : Int)], ?_⟩
    have a1 : eSl oSl (eVar 0) oNone (oSome (eC (.int 4))) [some (.scr ns), none, none, none, none, none, none, none, none, none, none] [] = some (.lst true (cs.map .int), []) := by
      show (some (D.lst true (cut (ns.map D.int) none (some 4)), ([] : Store)) : Option (D × Store)) = _
      rw [hc]
    have a2 : eFrz (aCons (eCB bLen (aCons (eVar 0) aNil)) aNil) [some (.scr ns), none, none, none, none, none, none, none, none, none, none] [] = some (.lst true ([(ns.length : Int)].map .int), []) := by
      show (some (D.lst true [.int ((ns.map D.int).length : Nat)], ([] : Store)) : Option (D × Store)) = _
      rw [List.length_map]; rfl
    rw [iSeq_eq, eOp_eq, a1, Option.bind_some, a2, Option.bind_some]
    show (Option.map _ (if (cs.map D.int).length + 1 ≤ 1000000 then some (D.lst true (cs.map D.int ++ [(ns.length : Int)].map D.int)) else none)).bind _ = _
    rw [if_pos (by rw [List.length_map]; exact hl2), ← List.map_append]
    rfl
  have l1 : ∃ env' S', law_l3 [some (.scr ns), none, none, none, none, none, none, none, none, none, none] [] = some (.nx, env', S') ∧ ∃ y1 y2 y3 y4 y5 y6 y7 y8 y9 y10, env' = [some (.scr ns), y1, y2, y3, y4, y5, y6, y7, y8, y9, y10] := by
    unfold law_l3
    rw [sFor_eq, e]
    exact loop_all (w := []) (g := Pat.sem (.nm 1)) (b := law_b3) (ds := l.map .int) (env := [some (.scr ns), none, none, none, none, none, none, none, none, none, none]) (S := [])
      (fun _ env S => ∃ y1 y2 y3 y4 y5 y6 y7 y8 y9 y10, env = [some (.scr ns), y1, y2, y3, y4, y5, y6, y7, y8, y9, y10]) ⟨_, _, _, _, _, _, _, _, _, _, rfl⟩ (fun i env S _ => by simp) (fun j d env S hd q => by
        obtain ⟨y1, y2, y3, y4, y5, y6, y7, y8, y9, y10, he⟩ := q
        rw [List.getElem?_map] at hd
        obtain ⟨c, hc, rfl⟩ := Option.map_eq_some_iff.mp hd
        subst he
        obtain ⟨env', S', w2, w3, w4, w5, w6, w7, w8, w9, w10, he, e3⟩ := turn_ok ns c y2 y3 y4 y5 y6 y7 y8 y9 y10 S
        exact ⟨_, pat_nm _ _ _, _, _, e3, _, _, _, _, _, _, _, _, _, _, he⟩)
  obtain ⟨env', S', l1, y1, y2, y3, y4, y5, y6, y7, y8, y9, y10, he⟩ := l1
  subst he
  have gA : Good 2 [[((0 : Int), (2 : Int)), (5, 7)]] := ⟨.inr (.inl rfl), by simp, by decide⟩
  have gB : Good 3 [] := ⟨.inr (.inr rfl), by simp, by simp⟩
  have hA := cut_at_ok gA (by decide) (w := 0) (by decide) 1
  have hB := cut_at_ok gB (by decide) (w := 2) (by decide) 0
  have vA : encK true 2 (cutF [[((0 : Int), (2 : Int)), (5, 7)]] 0 1) = .tup [.int 1, .lst true [.tup [.tup [.int 5, .int 7]]]] := rfl
  have vB : encK true 3 (cutF [] 2 0) = .tup [.int 2, .lst true []] := rfl
  rw [vA] at hA
  rw [vB] at hB
  have cA : (eCallP sem_cut_at (aCons (eTup (aCons (eC (.int 2)) (aCons (eFrz (aCons (eTup (aCons (eTup (aCons (eC (.int 0)) (aCons (eC (.int 2)) aNil))) (aCons (eTup (aCons (eC (.int 5)) (aCons (eC (.int 7)) aNil))) aNil))) aNil)) aNil))) (aCons (eC (.int 0)) (aCons (eC (.int 1)) aNil)))) [some (.scr ns), y1, y2, y3, y4, y5, y6, y7, y8, y9, y10] S' = some (.tup [.int 1, .lst true [.tup [.tup [.int 5, .int 7]]]], S') :=
    callP_of (ds := [encH true 2 [[((0 : Int), (2 : Int)), (5, 7)]], .int 0, .int 1]) (es := [encH false 2 [[((0 : Int), (2 : Int)), (5, 7)]], .int 0, .int 1]) (S' := S') rfl (by simp [pureL, pureD, encH, encB, encS]) (by simp [ageL, age, encH, encB, encS]) hA
  have cB : (eCallP sem_cut_at (aCons (eTup (aCons (eC (.int 3)) (aCons (eFrz aNil) aNil))) (aCons (eC (.int 2)) (aCons (eC (.int 0)) aNil)))) [some (.scr ns), y1, y2, y3, y4, y5, y6, y7, y8, y9, y10] S' = some (.tup [.int 2, .lst true []], S') :=
    callP_of (ds := [encH true 3 [], .int 2, .int 0]) (es := [encH false 3 [], .int 2, .int 0]) (S' := S') rfl (by simp [pureL, pureD, encH]) (by simp [ageL, age, encH]) hB
  have qA : ∀ S : Store, oEq false S (.tup [.int 1, .lst true [.tup [.tup [.int 5, .int 7]]]]) (.tup [.int 1, .lst true [.tup [.tup [.int 5, .int 7]]]]) = some (.bl true) := fun S => eqP_same (p := .tuple [.int 1, .list [.tuple [.tuple [.int 5, .int 7]]]]) 4 (by simp [seeP, VS.den, denL, toP, toPL]) (by simp [seeP, VS.den, denL, toP, toPL]) rfl (by decide)
  have qB : ∀ S : Store, oEq false S (.tup [.int 2, .lst true []]) (.tup [.int 2, .lst true []]) = some (.bl true) := fun S => eqP_same (p := .tuple [.int 2, .list []]) 2 (by simp [seeP, VS.den, denL, toP, toPL]) (by simp [seeP, VS.den, denL, toP, toPL]) rfl (by decide)
  unfold sem_law
  rw [runP_eq]
  simp only [List.length_cons, List.length_nil, List.map_cons, List.map_nil, Nat.reduceAdd, Nat.reduceSub, List.replicate_succ, List.replicate_zero, List.cons_append, List.nil_append, if_true]
  unfold f_law
  rw [seq_nx l1]
  simp [sRet_eq, eAnd_eq, eOp_eq, eC_eq, eTup_eq, eFrz_eq, aCons_eq, aNil_eq, qA, qB, cA, cB, den]
end W12
end
section
set_option Elab.async false
set_option maxRecDepth 10000
set_option linter.all false
set_option maxHeartbeats 4000000
def PySem.W.Fast.tw15539980305385322348 : Nat := 0
def PySem.W.Fast.tw6466003697514255812 : Nat := 0
def PySem.W.Fast.tw3281012537844032987 : Nat := 0
def PySem.W.Fast.tw9901175841142803473 : Nat := 0
def PySem.W.Fast.tw389478959971763230 : Nat := 0
def PySem.W.Fast.tw17885915891718430463 : Nat := 0
def PySem.W.Fast.tw16061480993758252609 : Nat := 0
def PySem.W.Fast.tw7118335145760952675 : Nat := 0
def PySem.W.Fast.tw16499684063922325973 : Nat := 0
def PySem.W.Fast.tw10149383668213868890 : Nat := 0
def PySem.W.Fast.tw10307865863527161731 : Nat := 0
def PySem.W.Fast.tw10182335934987604226 : Nat := 0
def PySem.W.Fast.tw5501090555536143959 : Nat := 0
def PySem.W.Fast.tw15026833726028032209 : Nat := 0
def PySem.W.Fast.tw7979909101712044544 : Nat := 0
def PySem.W.Fast.tw3858030229198131030 : Nat := 0
def PySem.W.Fast.tw10199891166162091785 : Nat := 0
def PySem.W.Fast.tw44866657749220452 : Nat := 0
def PySem.W.Fast.tw17284972809970027134 : Nat := 0
def PySem.W.Fast.tw3311016791326033525 : Nat := 0
def PySem.W.Fast.tw5195422385952055368 : Nat := 0
def PySem.W.Fast.tw9187655457497493203 : Nat := 0
def PySem.W.Fast.tw12492777569699406819 : Nat := 0
def PySem.W.Fast.tw13674479098827921660 : Nat := 0
def PySem.W.Fast.tw7022290440211011012 : Nat := 0
def PySem.W.Fast.tw5998474688256434380 : Nat := 0
def PySem.W.Fast.tw7889651701486758759 : Nat := 0
def PySem.W.Fast.tw12067191971734717840 : Nat := 0
def PySem.W.Fast.tw8135371133696785406 : Nat := 0
def PySem.W.Fast.tw4520805434843945976 : Nat := 0
def PySem.W.Fast.tw7903965538635264729 : Nat := 0
def PySem.W.Fast.tw4625985764998893692 : Nat := 0
def PySem.W.Fast.tw14098386370852452533 : Nat := 0
def PySem.W.Fast.tw13698273678127892122 : Nat := 0
def PySem.W.Fast.tw10404500856761439543 : Nat := 0
def PySem.W.Fast.tw17247920820808890546 : Nat := 0
def PySem.W.Fast.tw16543895457702500300 : Nat := 0
def PySem.W.Fast.tw3820742988242724912 : Nat := 0
def PySem.W.Fast.tw6552347067145763309 : Nat := 0
def PySem.W.Fast.tw17913338900758599623 : Nat := 0
def PySem.W.Fast.tw17955977078221159713 : Nat := 0
def PySem.W.Fast.tw11587511959502078594 : Nat := 0
def PySem.W.Fast.tw6750485785534073761 : Nat := 0
def PySem.W.Fast.tw9994692131193633863 : Nat := 0
def PySem.W.Fast.tw11489589458514701170 : Nat := 0
def PySem.W.Fast.tw16299186086164799048 : Nat := 0
def PySem.W.Fast.tw15132558151311056636 : Nat := 0
def PySem.W.Fast.tw8194564241259499918 : Nat := 0
def PySem.W.Fast.tw16541356383512245431 : Nat := 0
def PySem.W.Fast.tw13639151864506331997 : Nat := 0
def PySem.W.Fast.tw11450793565914009705 : Nat := 0
def PySem.W.Fast.tw2547685750058505555 : Nat := 0
def PySem.W.Fast.tw11435671187577540519 : Nat := 0
def PySem.W.Fast.tw7600775956537171501 : Nat := 0
def PySem.W.Fast.tw11983808390137909265 : Nat := 0
def PySem.W.Fast.tw18007327339406199142 : Nat := 0
def PySem.W.Fast.tw1232338760876928887 : Nat := 0
def PySem.W.Fast.tw11761867269319200491 : Nat := 0
def PySem.W.Fast.tw11788584126777630504 : Nat := 0
def PySem.W.Fast.tw7753378209727027355 : Nat := 0
def PySem.W.Fast.tw1345989030414954804 : Nat := 0
def PySem.W.Fast.tw4761603286011907038 : Nat := 0
def PySem.W.Fast.tw12718588158680908897 : Nat := 0
def PySem.W.Fast.tw17194106280508804633 : Nat := 0
def PySem.W.Fast.tw14706027494281975192 : Nat := 0
def PySem.W.Fast.tw17105352850043630730 : Nat := 0
def PySem.W.Fast.tw12006074129847984772 : Nat := 0
def PySem.W.Fast.tw1433210154621136316 : Nat := 0
def PySem.W.Fast.tw3798812167009913543 : Nat := 0
def PySem.W.Fast.tw1134936573427374343 : Nat := 0
def PySem.W.Fast.tw1027922142934211568 : Nat := 0
def PySem.W.Fast.tw11853104716521424115 : Nat := 0
def PySem.W.Fast.tw4572024035661914486 : Nat := 0
def PySem.W.Fast.tw16265062933516654469 : Nat := 0
def PySem.W.Fast.tw14354779465978852508 : Nat := 0
def PySem.W.Fast.tw16153284057494054133 : Nat := 0
def PySem.W.Fast.tw17657411004089124957 : Nat := 0
def PySem.W.Fast.tw16993057151915040048 : Nat := 0
def PySem.W.Fast.tw4614941229080934321 : Nat := 0
def PySem.W.Fast.tw13701456819354274327 : Nat := 0
def PySem.W.Fast.tw10989371350170235720 : Nat := 0
def PySem.W.Fast.tw8397981293162554285 : Nat := 0
def PySem.W.Fast.tw7297860130248489601 : Nat := 0
def PySem.W.Fast.tw7515775564614456160 : Nat := 0
def PySem.W.Fast.tw3643623447436147101 : Nat := 0
def PySem.W.Fast.tw17950437327223270652 : Nat := 0
def PySem.W.Fast.tw16897943783453579010 : Nat := 0
def PySem.W.Fast.tw11140674921070091829 : Nat := 0
def PySem.W.Fast.tw5527135542040452137 : Nat := 0
def PySem.W.Fast.tw7421719785852151201 : Nat := 0
def PySem.W.Fast.tw7820464104551541803 : Nat := 0
def PySem.W.Fast.tw16221928465143108283 : Nat := 0
def PySem.W.Fast.tw10537255428575828741 : Nat := 0
def PySem.W.Fast.tw10995963619574595309 : Nat := 0
def PySem.W.Fast.tw9689761746940672189 : Nat := 0
def PySem.W.Fast.tw8302466075799973837 : Nat := 0
def PySem.W.Fast.tw8024208191561603639 : Nat := 0
def PySem.W.Fast.tw15194729287074053602 : Nat := 0
def PySem.W.Fast.tw14600509521533652697 : Nat := 0
def PySem.W.Fast.tw18000518172156234491 : Nat := 0
def PySem.W.Fast.tw7616607063592587055 : Nat := 0
def PySem.W.Fast.tw4836818966721547234 : Nat := 0
def PySem.W.Fast.tw17566315676900363771 : Nat := 0
def PySem.W.Fast.tw8123867880605578826 : Nat := 0
def PySem.W.Fast.tw4665010710304826803 : Nat := 0
def PySem.W.Fast.tw6770652330589021459 : Nat := 0
def PySem.W.Fast.tw6745965642494447891 : Nat := 0
def PySem.W.Fast.tw2500212684738152272 : Nat := 0
def PySem.W.Fast.tw7582035057803014377 : Nat := 0
def PySem.W.Fast.tw4658785351327867299 : Nat := 0
def PySem.W.Fast.tw5061185890674763729 : Nat := 0
def PySem.W.Fast.tw3202056580479808237 : Nat := 0
def PySem.W.Fast.tw16171404379780447199 : Nat := 0
def PySem.W.Fast.tw13376941351623385268 : Nat := 0
def PySem.W.Fast.tw10549524923588414447 : Nat := 0
def PySem.W.Fast.tw14276149593931845436 : Nat := 0
def PySem.W.Fast.tw9175713479856529729 : Nat := 0
def PySem.W.Fast.tw8906668963309530569 : Nat := 0
def PySem.W.Fast.tw16834853862108151854 : Nat := 0
def PySem.W.Fast.tw11487036283722984927 : Nat := 0
def PySem.W.Fast.tw1419015048353432364 : Nat := 0
def PySem.W.Fast.tw5137377070047676974 : Nat := 0
def PySem.W.Fast.tw4061240564567866192 : Nat := 0
def PySem.W.Fast.tw18280131732610679148 : Nat := 0
def PySem.W.Fast.tw16769878265733852854 : Nat := 0
def PySem.W.Fast.tw6539108714941468399 : Nat := 0
def PySem.W.Fast.tw4954082037781408441 : Nat := 0
def PySem.W.Fast.tw1580515156901338567 : Nat := 0
def PySem.W.Fast.tw3849912054599811910 : Nat := 0
def PySem.W.Fast.tw13182057883534899796 : Nat := 0
def PySem.W.Fast.tw12923263622036849971 : Nat := 0
def PySem.W.Fast.tw3698676592367462078 : Nat := 0
def PySem.W.Fast.tw15352436139103334394 : Nat := 0
def PySem.W.Fast.tw9998165613148244664 : Nat := 0
def PySem.W.Fast.tw63599127941205522 : Nat := 0
def PySem.W.Fast.tw15591734218336899354 : Nat := 0
def PySem.W.Fast.tw14861141446200859953 : Nat := 0
def PySem.W.Fast.tw3320401848584165857 : Nat := 0
def PySem.W.Fast.tw2473483122222350776 : Nat := 0
def PySem.W.Fast.tw2212616500366127852 : Nat := 0
def PySem.W.Fast.tw16685702985527311878 : Nat := 0
def PySem.W.Fast.tw3878171361042497060 : Nat := 0
def PySem.W.Fast.tw8414192545655725624 : Nat := 0
def PySem.W.Fast.tw7797532049990911561 : Nat := 0
def PySem.W.Fast.tw12558241711272082999 : Nat := 0
def PySem.W.Fast.tw5267339503063643136 : Nat := 0
def PySem.W.Fast.tw4295036299126151010 : Nat := 0
def PySem.W.Fast.tw15028206276446877970 : Nat := 0
def PySem.W.Fast.tw11353063375039131790 : Nat := 0
def PySem.W.Fast.tw999203961375584921 : Nat := 0
def PySem.W.Fast.tw9972867677570303495 : Nat := 0
def PySem.W.Fast.tw9249488529759239202 : Nat := 0
def PySem.W.Fast.tw8843109347378616578 : Nat := 0
def PySem.W.Fast.tw8395997244293979088 : Nat := 0
def PySem.W.Fast.tw800483307942198764 : Nat := 0
def PySem.W.Fast.tw7727662481708530874 : Nat := 0
def PySem.W.Fast.tw7702839350637602498 : Nat := 0
def PySem.W.Fast.tw7654623678630147936 : Nat := 0
def PySem.W.Fast.tw7413900801692808397 : Nat := 0
def PySem.W.Fast.tw7099123311453677368 : Nat := 0
def PySem.W.Fast.tw7031358232818786046 : Nat := 0
def PySem.W.Fast.tw6770595692513044039 : Nat := 0
def PySem.W.Fast.tw6764314373394210459 : Nat := 0
def PySem.W.Fast.tw4110238975972092720 : Nat := 0
def PySem.W.Fast.tw403709584595354420 : Nat := 0
def PySem.W.Fast.tw3203246031930944009 : Nat := 0
def PySem.W.Fast.tw3136537497884314406 : Nat := 0
def PySem.W.Fast.tw2888729318932791874 : Nat := 0
def PySem.W.Fast.tw2283811110111991424 : Nat := 0
def PySem.W.Fast.tw2158883750794275290 : Nat := 0
def PySem.W.Fast.tw1983583665514629801 : Nat := 0
def PySem.W.Fast.tw18367803825132644813 : Nat := 0
def PySem.W.Fast.tw18074140024584710314 : Nat := 0
def PySem.W.Fast.tw17826154802045678783 : Nat := 0
def PySem.W.Fast.tw17216650053182543264 : Nat := 0
def PySem.W.Fast.tw17202270931455873539 : Nat := 0
def PySem.W.Fast.tw17177269425930470515 : Nat := 0
def PySem.W.Fast.tw17049797342609934590 : Nat := 0
def PySem.W.Fast.tw17039612606731565817 : Nat := 0
def PySem.W.Fast.tw16738603818110146391 : Nat := 0
def PySem.W.Fast.tw16516590068952198132 : Nat := 0
def PySem.W.Fast.tw16481069324227362083 : Nat := 0
def PySem.W.Fast.tw15542205488646713975 : Nat := 0
def PySem.W.Fast.tw15351971254640303356 : Nat := 0
def PySem.W.Fast.tw15233057001623851717 : Nat := 0
def PySem.W.Fast.tw13924982037817724571 : Nat := 0
def PySem.W.Fast.tw13670158709575995759 : Nat := 0
def PySem.W.Fast.tw13160720722260073513 : Nat := 0
def PySem.W.Fast.tw13071393040284351256 : Nat := 0
def PySem.W.Fast.tw12587313024281508473 : Nat := 0
def PySem.W.Fast.tw12085074054534505662 : Nat := 0
def PySem.W.Fast.tw10939603401095744063 : Nat := 0
def PySem.W.Fast.tw10458368241500736349 : Nat := 0
def PySem.W.Fast.tw10105967057457930528 : Nat := 0
namespace W12
open PySem PySem.Spec L2 VS
theorem tln1 : ∀ {us : List Value}, us.length = 1 → ∃ a0, us = [a0]
  | [a0], _ => ⟨a0, rfl⟩
theorem tln2 : ∀ {us : List Value}, us.length = 2 → ∃ a0 a1, us = [a0, a1]
  | [a0, a1], _ => ⟨a0, a1, rfl⟩
theorem tln3 : ∀ {us : List Value}, us.length = 3 → ∃ a0 a1 a2, us = [a0, a1, a2]
  | [a0, a1, a2], _ => ⟨a0, a1, a2, rfl⟩
theorem tln4 : ∀ {us : List Value}, us.length = 4 → ∃ a0 a1 a2 a3, us = [a0, a1, a2, a3]
  | [a0, a1, a2, a3], _ => ⟨a0, a1, a2, a3, rfl⟩
theorem tops {l : PySem.W.OpenLaw} {w : World} {K : PySem.W.Frag} {h : Heap} {mg : Str → Option Value} {fa dM : Addr} {f1 f2 f3 f4 f5 f6 f7 f8 f9 f10 f11 f12 f13 f14 f15 f16 f17 f18 f19 f20 f21 f22 : Addr} (X : K.In h) (G : h.Ns mainGlobals mg) (hfa : mg "law" = some (.ref fa))
    {od1 an1 od2 an2 od3 an3 od4 an4 od5 an5 od6 an6 od7 an7 od8 an8 od9 an9 od10 an10 od11 an11 od12 an12 od13 an13 od14 an14 od15 an15 od16 an16 od17 an17 od18 an18 od19 an19 od20 an20 od21 an21 od22 an22 : Option Addr} {sl1 sl2 sl3 sl4 sl5 sl6 sl7 sl8 sl9 sl10 sl11 sl12 sl13 sl14 sl15 sl16 sl17 sl18 sl19 sl20 sl21 sl22 : Array (Option Value)} {oc1 kV1 dc1 pm1 cd1 ct1 oc2 kV2 dc2 pm2 cd2 ct2 oc3 kV3 dc3 pm3 cd3 ct3 oc4 kV4 dc4 pm4 cd4 ct4 oc5 kV5 dc5 pm5 cd5 ct5 oc6 kV6 dc6 pm6 cd6 ct6 oc7 kV7 dc7 pm7 cd7 ct7 oc8 kV8 dc8 pm8 cd8 ct8 oc9 kV9 dc9 pm9 cd9 ct9 oc10 kV10 dc10 pm10 cd10 ct10 oc11 kV11 dc11 pm11 cd11 ct11 oc12 kV12 dc12 pm12 cd12 ct12 oc13 kV13 dc13 pm13 cd13 ct13 oc14 kV14 dc14 pm14 cd14 ct14 oc15 kV15 dc15 pm15 cd15 ct15 oc16 kV16 dc16 pm16 cd16 ct16 oc17 kV17 dc17 pm17 cd17 ct17 oc18 kV18 dc18 pm18 cd18 ct18 oc19 kV19 dc19 pm19 cd19 ct19 oc20 kV20 dc20 pm20 cd20 ct20 oc21 kV21 dc21 pm21 cd21 ct21 oc22 kV22 dc22 pm22 cd22 ct22 : Value}
    (a1 : PySem.W.nsIn K mainGlobals "is_whole" = some (some (.ref f1))) (l1 : K.lookup f1 = some ⟨oc1, od1, .func (PySem.W.fnOf "is_whole" "is_whole" (defArgs s_is_whole) (defBody s_is_whole) (defScope s_is_whole) .none kV1 dc1 pm1 an1 cd1 ct1), sl1⟩) (c1 : PySem.W.codeIn K cd1 "is_whole" = true) (k1 : PySem.W.keepIn K (.ref f1) = true)
    (a2 : PySem.W.nsIn K mainGlobals "are_ways" = some (some (.ref f2))) (l2 : K.lookup f2 = some ⟨oc2, od2, .func (PySem.W.fnOf "are_ways" "are_ways" (defArgs s_are_ways) (defBody s_are_ways) (defScope s_are_ways) .none kV2 dc2 pm2 an2 cd2 ct2), sl2⟩) (c2 : PySem.W.codeIn K cd2 "are_ways" = true) (k2 : PySem.W.keepIn K (.ref f2) = true)
    (a3 : PySem.W.nsIn K mainGlobals "is_stretch" = some (some (.ref f3))) (l3 : K.lookup f3 = some ⟨oc3, od3, .func (PySem.W.fnOf "is_stretch" "is_stretch" (defArgs s_is_stretch) (defBody s_is_stretch) (defScope s_is_stretch) .none kV3 dc3 pm3 an3 cd3 ct3), sl3⟩) (c3 : PySem.W.codeIn K cd3 "is_stretch" = true) (k3 : PySem.W.keepIn K (.ref f3) = true)
    (a4 : PySem.W.nsIn K mainGlobals "is_box" = some (some (.ref f4))) (l4 : K.lookup f4 = some ⟨oc4, od4, .func (PySem.W.fnOf "is_box" "is_box" (defArgs s_is_box) (defBody s_is_box) (defScope s_is_box) .none kV4 dc4 pm4 an4 cd4 ct4), sl4⟩) (c4 : PySem.W.codeIn K cd4 "is_box" = true) (k4 : PySem.W.keepIn K (.ref f4) = true)
    (a5 : PySem.W.nsIn K mainGlobals "is_heap" = some (some (.ref f5))) (l5 : K.lookup f5 = some ⟨oc5, od5, .func (PySem.W.fnOf "is_heap" "is_heap" (defArgs s_is_heap) (defBody s_is_heap) (defScope s_is_heap) .none kV5 dc5 pm5 an5 cd5 ct5), sl5⟩) (c5 : PySem.W.codeIn K cd5 "is_heap" = true) (k5 : PySem.W.keepIn K (.ref f5) = true)
    (a6 : PySem.W.nsIn K mainGlobals "need_heap" = some (some (.ref f6))) (l6 : K.lookup f6 = some ⟨oc6, od6, .func (PySem.W.fnOf "need_heap" "need_heap" (defArgs s_need_heap) (defBody s_need_heap) (defScope s_need_heap) .none kV6 dc6 pm6 an6 cd6 ct6), sl6⟩) (c6 : PySem.W.codeIn K cd6 "need_heap" = true) (k6 : PySem.W.keepIn K (.ref f6) = true)
    (a7 : PySem.W.nsIn K mainGlobals "need_way" = some (some (.ref f7))) (l7 : K.lookup f7 = some ⟨oc7, od7, .func (PySem.W.fnOf "need_way" "need_way" (defArgs s_need_way) (defBody s_need_way) (defScope s_need_way) .none kV7 dc7 pm7 an7 cd7 ct7), sl7⟩) (c7 : PySem.W.codeIn K cd7 "need_way" = true) (k7 : PySem.W.keepIn K (.ref f7) = true)
    (a8 : PySem.W.nsIn K mainGlobals "cut_boxes" = some (some (.ref f8))) (l8 : K.lookup f8 = some ⟨oc8, od8, .func (PySem.W.fnOf "cut_boxes" "cut_boxes" (defArgs s_cut_boxes) (defBody s_cut_boxes) (defScope s_cut_boxes) .none kV8 dc8 pm8 an8 cd8 ct8), sl8⟩) (c8 : PySem.W.codeIn K cd8 "cut_boxes" = true) (k8 : PySem.W.keepIn K (.ref f8) = true)
    (a9 : PySem.W.nsIn K mainGlobals "cut_at" = some (some (.ref f9))) (l9 : K.lookup f9 = some ⟨oc9, od9, .func (PySem.W.fnOf "cut_at" "cut_at" (defArgs s_cut_at) (defBody s_cut_at) (defScope s_cut_at) .none kV9 dc9 pm9 an9 cd9 ct9), sl9⟩) (c9 : PySem.W.codeIn K cd9 "cut_at" = true) (k9 : PySem.W.keepIn K (.ref f9) = true)
    (a10 : PySem.W.nsIn K mainGlobals "_law_mixed" = some (some (.ref f10))) (l10 : K.lookup f10 = some ⟨oc10, od10, .func (PySem.W.fnOf "_law_mixed" "_law_mixed" (defArgs s_law_mixed) (defBody s_law_mixed) (defScope s_law_mixed) .none kV10 dc10 pm10 an10 cd10 ct10), sl10⟩) (c10 : PySem.W.codeIn K cd10 "_law_mixed" = true) (k10 : PySem.W.keepIn K (.ref f10) = true)
    (a11 : PySem.W.nsIn K mainGlobals "_law_pot" = some (some (.ref f11))) (l11 : K.lookup f11 = some ⟨oc11, od11, .func (PySem.W.fnOf "_law_pot" "_law_pot" (defArgs s_law_pot) (defBody s_law_pot) (defScope s_law_pot) .none kV11 dc11 pm11 an11 cd11 ct11), sl11⟩) (c11 : PySem.W.codeIn K cd11 "_law_pot" = true) (k11 : PySem.W.keepIn K (.ref f11) = true)
    (a12 : PySem.W.nsIn K mainGlobals "_law_take" = some (some (.ref f12))) (l12 : K.lookup f12 = some ⟨oc12, od12, .func (PySem.W.fnOf "_law_take" "_law_take" (defArgs s_law_take) (defBody s_law_take) (defScope s_law_take) .none kV12 dc12 pm12 an12 cd12 ct12), sl12⟩) (c12 : PySem.W.codeIn K cd12 "_law_take" = true) (k12 : PySem.W.keepIn K (.ref f12) = true)
    (a13 : PySem.W.nsIn K mainGlobals "_law_mixed_up" = some (some (.ref f13))) (l13 : K.lookup f13 = some ⟨oc13, od13, .func (PySem.W.fnOf "_law_mixed_up" "_law_mixed_up" (defArgs s_law_mixed_up) (defBody s_law_mixed_up) (defScope s_law_mixed_up) .none kV13 dc13 pm13 an13 cd13 ct13), sl13⟩) (c13 : PySem.W.codeIn K cd13 "_law_mixed_up" = true) (k13 : PySem.W.keepIn K (.ref f13) = true)
    (a14 : PySem.W.nsIn K mainGlobals "_law_unlike" = some (some (.ref f14))) (l14 : K.lookup f14 = some ⟨oc14, od14, .func (PySem.W.fnOf "_law_unlike" "_law_unlike" (defArgs s_law_unlike) (defBody s_law_unlike) (defScope s_law_unlike) .none kV14 dc14 pm14 an14 cd14 ct14), sl14⟩) (c14 : PySem.W.codeIn K cd14 "_law_unlike" = true) (k14 : PySem.W.keepIn K (.ref f14) = true)
    (a15 : PySem.W.nsIn K mainGlobals "_law_small" = some (some (.ref f15))) (l15 : K.lookup f15 = some ⟨oc15, od15, .func (PySem.W.fnOf "_law_small" "_law_small" (defArgs s_law_small) (defBody s_law_small) (defScope s_law_small) .none kV15 dc15 pm15 an15 cd15 ct15), sl15⟩) (c15 : PySem.W.codeIn K cd15 "_law_small" = true) (k15 : PySem.W.keepIn K (.ref f15) = true)
    (a16 : PySem.W.nsIn K mainGlobals "_law_marks" = some (some (.ref f16))) (l16 : K.lookup f16 = some ⟨oc16, od16, .func (PySem.W.fnOf "_law_marks" "_law_marks" (defArgs s_law_marks) (defBody s_law_marks) (defScope s_law_marks) .none kV16 dc16 pm16 an16 cd16 ct16), sl16⟩) (c16 : PySem.W.codeIn K cd16 "_law_marks" = true) (k16 : PySem.W.keepIn K (.ref f16) = true)
    (a17 : PySem.W.nsIn K mainGlobals "_law_heap" = some (some (.ref f17))) (l17 : K.lookup f17 = some ⟨oc17, od17, .func (PySem.W.fnOf "_law_heap" "_law_heap" (defArgs s_law_heap) (defBody s_law_heap) (defScope s_law_heap) .none kV17 dc17 pm17 an17 cd17 ct17), sl17⟩) (c17 : PySem.W.codeIn K cd17 "_law_heap" = true) (k17 : PySem.W.keepIn K (.ref f17) = true)
    (a18 : PySem.W.nsIn K mainGlobals "_law_own" = some (some (.ref f18))) (l18 : K.lookup f18 = some ⟨oc18, od18, .func (PySem.W.fnOf "_law_own" "_law_own" (defArgs s_law_own) (defBody s_law_own) (defScope s_law_own) .none kV18 dc18 pm18 an18 cd18 ct18), sl18⟩) (c18 : PySem.W.codeIn K cd18 "_law_own" = true) (k18 : PySem.W.keepIn K (.ref f18) = true)
    (a19 : PySem.W.nsIn K mainGlobals "_law_due" = some (some (.ref f19))) (l19 : K.lookup f19 = some ⟨oc19, od19, .func (PySem.W.fnOf "_law_due" "_law_due" (defArgs s_law_due) (defBody s_law_due) (defScope s_law_due) .none kV19 dc19 pm19 an19 cd19 ct19), sl19⟩) (c19 : PySem.W.codeIn K cd19 "_law_due" = true) (k19 : PySem.W.keepIn K (.ref f19) = true)
    (a20 : PySem.W.nsIn K mainGlobals "_law_ends" = some (some (.ref f20))) (l20 : K.lookup f20 = some ⟨oc20, od20, .func (PySem.W.fnOf "_law_ends" "_law_ends" (defArgs s_law_ends) (defBody s_law_ends) (defScope s_law_ends) .none kV20 dc20 pm20 an20 cd20 ct20), sl20⟩) (c20 : PySem.W.codeIn K cd20 "_law_ends" = true) (k20 : PySem.W.keepIn K (.ref f20) = true)
    (a21 : PySem.W.nsIn K mainGlobals "_law_right" = some (some (.ref f21))) (l21 : K.lookup f21 = some ⟨oc21, od21, .func (PySem.W.fnOf "_law_right" "_law_right" (defArgs s_law_right) (defBody s_law_right) (defScope s_law_right) .none kV21 dc21 pm21 an21 cd21 ct21), sl21⟩) (c21 : PySem.W.codeIn K cd21 "_law_right" = true) (k21 : PySem.W.keepIn K (.ref f21) = true)
    (a22 : PySem.W.nsIn K mainGlobals "law" = some (some (.ref f22))) (l22 : K.lookup f22 = some ⟨oc22, od22, .func (PySem.W.fnOf "law" "law" (defArgs s_law) (defBody s_law) (defScope s_law) .none kV22 dc22 pm22 an22 cd22 ct22), sl22⟩) (c22 : PySem.W.codeIn K cd22 "law" = true) (k22 : PySem.W.keepIn K (.ref f22) = true)
    (z1 : PySem.W.nsIn K mainGlobals "len" = some none)
    (z2 : PySem.W.nsIn K mainGlobals "isinstance" = some none)
    (z3 : PySem.W.nsIn K mainGlobals "all" = some none)
    (z4 : PySem.W.nsIn K mainGlobals "sorted" = some none)
    (z5 : PySem.W.nsIn K mainGlobals "min" = some none)
    (z6 : PySem.W.nsIn K mainGlobals "max" = some none)
    (z7 : PySem.W.nsIn K mainGlobals "abs" = some none)
    (z8 : PySem.W.nsIn K mainGlobals "repr" = some none)
    (z9 : PySem.W.nsIn K mainGlobals "set" = some none)
    (z10 : PySem.W.nsIn K mainGlobals "list" = some none)
    (z11 : PySem.W.nsIn K mainGlobals "tuple" = some none)
    (z12 : PySem.W.nsIn K mainGlobals "range" = some none)
    (z13 : PySem.W.nsIn K mainGlobals "int" = some none)
    (z14 : PySem.W.nsIn K mainGlobals "bool" = some none)
    (z15 : PySem.W.nsIn K mainGlobals "str" = some none)
    (zBz : PySem.W.nsIn K mainGlobals "zip" = some none)
    {ep : Nat} {h1 h2 h3 : Int} {t1 t2 t3 u1 u2 u3 : Tok} (aM : PySem.W.nsIn K mainGlobals "MOST_BOXES" = some (some (.ref dM))) (hM : (dM == sysModules) = false)
    (lM : K.lookup dM = some { cls := .type "dict", data := .dict #[⟨h1, .int 1 t1, .int 20 u1⟩, ⟨h2, .int 2 t2, .int 10 u2⟩, ⟨h3, .int 3 t3, .int 6 u3⟩] ep }) (e1 : h1 = hashInt 1) (e2 : h2 = hashInt 2) (e3 : h3 = hashInt 3)
    : ∃ fd : FuncData, (∀ (s : Shared) (v : Value), BindsTo s fd ⟨[v], []⟩ [("script", v)]) ∧ ∀ base : Heap, K.In base → base.Ns mainGlobals mg → FnOk l.prog w K mg base CX0 8 fa fd ["script"] (spLawV K) := by
  have e := hfa.symm.trans (PySem.W.mg_of X G a22)
  cases e
  have F1 := fun_mk (st := s_is_whole) l1 c1 k1
  have b1 := F1.binds (ps := ["thing"]) fun _ _ _ _ _ _ us hl => by obtain ⟨_, rfl⟩ := tln1 hl; rfl
  have F2 := fun_mk (st := s_are_ways) l2 c2 k2
  have b2 := F2.binds (ps := ["thing"]) fun _ _ _ _ _ _ us hl => by obtain ⟨_, rfl⟩ := tln1 hl; rfl
  have F3 := fun_mk (st := s_is_stretch) l3 c3 k3
  have b3 := F3.binds (ps := ["thing"]) fun _ _ _ _ _ _ us hl => by obtain ⟨_, rfl⟩ := tln1 hl; rfl
  have F4 := fun_mk (st := s_is_box) l4 c4 k4
  have b4 := F4.binds (ps := ["ways", "thing"]) fun _ _ _ _ _ _ us hl => by obtain ⟨_, _, rfl⟩ := tln2 hl; rfl
  have F5 := fun_mk (st := s_is_heap) l5 c5 k5
  have b5 := F5.binds (ps := ["thing"]) fun _ _ _ _ _ _ us hl => by obtain ⟨_, rfl⟩ := tln1 hl; rfl
  have F6 := fun_mk (st := s_need_heap) l6 c6 k6
  have b6 := F6.binds (ps := ["heap"]) fun _ _ _ _ _ _ us hl => by obtain ⟨_, rfl⟩ := tln1 hl; rfl
  have F7 := fun_mk (st := s_need_way) l7 c7 k7
  have b7 := F7.binds (ps := ["heap", "way"]) fun _ _ _ _ _ _ us hl => by obtain ⟨_, _, rfl⟩ := tln2 hl; rfl
  have F8 := fun_mk (st := s_cut_boxes) l8 c8 k8
  have b8 := F8.binds (ps := ["boxes", "way", "number"]) fun _ _ _ _ _ _ us hl => by obtain ⟨_, _, _, rfl⟩ := tln3 hl; rfl
  have F9 := fun_mk (st := s_cut_at) l9 c9 k9
  have b9 := F9.binds (ps := ["heap", "way", "number"]) fun _ _ _ _ _ _ us hl => by obtain ⟨_, _, _, rfl⟩ := tln3 hl; rfl
  have F10 := fun_mk (st := s_law_mixed) l10 c10 k10
  have b10 := F10.binds (ps := ["cell", "k"]) fun _ _ _ _ _ _ us hl => by obtain ⟨_, _, rfl⟩ := tln2 hl; rfl
  have F11 := fun_mk (st := s_law_pot) l11 c11 k11
  have b11 := F11.binds (ps := ["cell"]) fun _ _ _ _ _ _ us hl => by obtain ⟨_, rfl⟩ := tln1 hl; rfl
  have F12 := fun_mk (st := s_law_take) l12 c12 k12
  have b12 := F12.binds (ps := ["pot", "many"]) fun _ _ _ _ _ _ us hl => by obtain ⟨_, _, rfl⟩ := tln2 hl; rfl
  have F13 := fun_mk (st := s_law_mixed_up) l13 c13 k13
  have b13 := F13.binds (ps := ["pot", "things"]) fun _ _ _ _ _ _ us hl => by obtain ⟨_, _, rfl⟩ := tln2 hl; rfl
  have F14 := fun_mk (st := s_law_unlike) l14 c14 k14
  have b14 := F14.binds (ps := ["pot", "ways", "count"]) fun _ _ _ _ _ _ us hl => by obtain ⟨_, _, _, rfl⟩ := tln3 hl; rfl
  have F15 := fun_mk (st := s_law_small) l15 c15 k15
  have b15 := F15.binds (ps := ["pot", "ways", "most", "many"]) fun _ _ _ _ _ _ us hl => by obtain ⟨_, _, _, _, rfl⟩ := tln4 hl; rfl
  have F16 := fun_mk (st := s_law_marks) l16 c16 k16
  have b16 := F16.binds (ps := ["pot", "many"]) fun _ _ _ _ _ _ us hl => by obtain ⟨_, _, rfl⟩ := tln2 hl; rfl
  have F17 := fun_mk (st := s_law_heap) l17 c17 k17
  have b17 := F17.binds (ps := ["pot", "ways", "most"]) fun _ _ _ _ _ _ us hl => by obtain ⟨_, _, _, rfl⟩ := tln3 hl; rfl
  have F18 := fun_mk (st := s_law_own) l18 c18 k18
  have b18 := F18.binds (ps := ["heap"]) fun _ _ _ _ _ _ us hl => by obtain ⟨_, rfl⟩ := tln1 hl; rfl
  have F19 := fun_mk (st := s_law_due) l19 c19 k19
  have b19 := F19.binds (ps := ["heap", "way", "number"]) fun _ _ _ _ _ _ us hl => by obtain ⟨_, _, _, rfl⟩ := tln3 hl; rfl
  have F20 := fun_mk (st := s_law_ends) l20 c20 k20
  have b20 := F20.binds (ps := ["heap", "way"]) fun _ _ _ _ _ _ us hl => by obtain ⟨_, _, rfl⟩ := tln2 hl; rfl
  have F21 := fun_mk (st := s_law_right) l21 c21 k21
  have b21 := F21.binds (ps := ["handed", "heap", "way", "number"]) fun _ _ _ _ _ _ us hl => by obtain ⟨_, _, _, _, rfl⟩ := tln4 hl; rfl
  have F22 := fun_mk (st := s_law) l22 c22 k22
  have mM := PySem.W.mg_of X G aM
  have B : Blt mg := fun x hx => by
    simp only [bltNames, List.mem_cons, List.not_mem_nil, or_false] at hx
    rcases hx with rfl | rfl | rfl | rfl | rfl | rfl | rfl | rfl | rfl | rfl | rfl | rfl | rfl | rfl | rfl
    · exact PySem.W.mg_none_of X G z1
    · exact PySem.W.mg_none_of X G z2
    · exact PySem.W.mg_none_of X G z3
    · exact PySem.W.mg_none_of X G z4
    · exact PySem.W.mg_none_of X G z5
    · exact PySem.W.mg_none_of X G z6
    · exact PySem.W.mg_none_of X G z7
    · exact PySem.W.mg_none_of X G z8
    · exact PySem.W.mg_none_of X G z9
    · exact PySem.W.mg_none_of X G z10
    · exact PySem.W.mg_none_of X G z11
    · exact PySem.W.mg_none_of X G z12
    · exact PySem.W.mg_none_of X G z13
    · exact PySem.W.mg_none_of X G z14
    · exact PySem.W.mg_none_of X G z15
  have Bz : mg "zip" = none := PySem.W.mg_none_of X G zBz
  refine ⟨PySem.W.fnOf "law" "law" (defArgs s_law) (defBody s_law) (defScope s_law) .none kV22 dc22 pm22 an22 cd22 ct22, fun s v => .of_eq rfl, fun base _ _ => ?_⟩
  have C_is_whole : CalP l.prog w K mg base "is_whole" 1 sem_is_whole := ⟨⟨["thing"], ⟨_, _, ok_is_whole F1 B, b1, k1, PySem.W.mg_of X G a1⟩, fun ds r h => runP_ok h⟩⟩
  have C_are_ways : CalP l.prog w K mg base "are_ways" 2 sem_are_ways := ⟨⟨["thing"], ⟨_, _, ok_are_ways F2 B mM (tab3 hM lM e1 e2 e3 (by decide)) C_is_whole, b2, k2, PySem.W.mg_of X G a2⟩, fun ds r h => runP_ok h⟩⟩
  have C_is_stretch : CalP l.prog w K mg base "is_stretch" 2 sem_is_stretch := ⟨⟨["thing"], ⟨_, _, ok_is_stretch F3 B C_is_whole, b3, k3, PySem.W.mg_of X G a3⟩, fun ds r h => runP_ok h⟩⟩
  have C_is_box : CalP l.prog w K mg base "is_box" 3 sem_is_box := ⟨⟨["ways", "thing"], ⟨_, _, ok_is_box F4 B C_are_ways C_is_stretch, b4, k4, PySem.W.mg_of X G a4⟩, fun ds r h => runP_ok h⟩⟩
  have C_is_heap : CalP l.prog w K mg base "is_heap" 4 sem_is_heap := ⟨⟨["thing"], ⟨_, _, ok_is_heap F5 B mM (tab3 hM lM e1 e2 e3 (by decide)) C_are_ways C_is_box, b5, k5, PySem.W.mg_of X G a5⟩, fun ds r h => runP_ok h⟩⟩
  have C_need_heap : CalP l.prog w K mg base "need_heap" 5 sem_need_heap := ⟨⟨["heap"], ⟨_, _, ok_need_heap F6 B C_is_heap, b6, k6, PySem.W.mg_of X G a6⟩, fun ds r h => runP_ok h⟩⟩
  have C_need_way : CalP l.prog w K mg base "need_way" 2 sem_need_way := ⟨⟨["heap", "way"], ⟨_, _, ok_need_way F7 B C_is_whole, b7, k7, PySem.W.mg_of X G a7⟩, fun ds r h => runP_ok h⟩⟩
  have C_cut_boxes : CalP l.prog w K mg base "cut_boxes" 1 sem_cut_boxes := ⟨⟨["boxes", "way", "number"], ⟨_, _, ok_cut_boxes F8 B, b8, k8, PySem.W.mg_of X G a8⟩, fun ds r h => runP_ok h⟩⟩
  have C_cut_at : CalP l.prog w K mg base "cut_at" 6 sem_cut_at := ⟨⟨["heap", "way", "number"], ⟨_, _, ok_cut_at F9 B C_need_heap C_need_way C_is_whole C_cut_boxes, b9, k9, PySem.W.mg_of X G a9⟩, fun ds r h => runP_ok h⟩⟩
  have C_law_mixed : CalP l.prog w K mg base "_law_mixed" 1 sem_law_mixed := ⟨⟨["cell", "k"], ⟨_, _, ok_law_mixed F10 B, b10, k10, PySem.W.mg_of X G a10⟩, fun ds r h => runP_ok h⟩⟩
  have C_law_pot : CalP l.prog w K mg base "_law_pot" 1 sem_law_pot := ⟨⟨["cell"], ⟨_, _, ok_law_pot F11 B, b11, k11, PySem.W.mg_of X G a11⟩, fun ds r h => runP_ok h⟩⟩
  have C_law_take : CalM l.prog w K mg base "_law_take" 2 sem_law_take := ⟨⟨["pot", "many"], ⟨_, _, ok_law_take F12 B C_law_mixed, b12, k12, PySem.W.mg_of X G a12⟩, fun ns ds r h => runM_ok h⟩⟩
  have C_law_mixed_up : CalM l.prog w K mg base "_law_mixed_up" 3 sem_law_mixed_up := ⟨⟨["pot", "things"], ⟨_, _, ok_law_mixed_up F13 B C_law_take, b13, k13, PySem.W.mg_of X G a13⟩, fun ns ds r h => runM_ok h⟩⟩
  have C_law_unlike : CalM l.prog w K mg base "_law_unlike" 4 sem_law_unlike := ⟨⟨["pot", "ways", "count"], ⟨_, _, ok_law_unlike F14 B Bz C_law_mixed_up, b14, k14, PySem.W.mg_of X G a14⟩, fun ns ds r h => runM_ok h⟩⟩
  have C_law_small : CalM l.prog w K mg base "_law_small" 5 sem_law_small := ⟨⟨["pot", "ways", "most", "many"], ⟨_, _, ok_law_small F15 B C_law_take C_law_unlike, b15, k15, PySem.W.mg_of X G a15⟩, fun ns ds r h => runM_ok h⟩⟩
  have C_law_marks : CalM l.prog w K mg base "_law_marks" 3 sem_law_marks := ⟨⟨["pot", "many"], ⟨_, _, ok_law_marks F16 B C_law_take, b16, k16, PySem.W.mg_of X G a16⟩, fun ns ds r h => runM_ok h⟩⟩
  have C_law_heap : CalM l.prog w K mg base "_law_heap" 6 sem_law_heap := ⟨⟨["pot", "ways", "most"], ⟨_, _, ok_law_heap F17 B Bz C_law_take C_law_small C_law_marks, b17, k17, PySem.W.mg_of X G a17⟩, fun ns ds r h => runM_ok h⟩⟩
  have C_law_own : CalP l.prog w K mg base "_law_own" 1 sem_law_own := ⟨⟨["heap"], ⟨_, _, ok_law_own F18 B, b18, k18, PySem.W.mg_of X G a18⟩, fun ds r h => runP_ok h⟩⟩
  have C_law_due : CalP l.prog w K mg base "_law_due" 1 sem_law_due := ⟨⟨["heap", "way", "number"], ⟨_, _, ok_law_due F19 B, b19, k19, PySem.W.mg_of X G a19⟩, fun ds r h => runP_ok h⟩⟩
  have C_law_ends : CalP l.prog w K mg base "_law_ends" 1 sem_law_ends := ⟨⟨["heap", "way"], ⟨_, _, ok_law_ends F20 B, b20, k20, PySem.W.mg_of X G a20⟩, fun ds r h => runP_ok h⟩⟩
  have C_law_right : CalP l.prog w K mg base "_law_right" 7 sem_law_right := ⟨⟨["handed", "heap", "way", "number"], ⟨_, _, ok_law_right F21 B C_law_due C_cut_at, b21, k21, PySem.W.mg_of X G a21⟩, fun ds r h => runP_ok h⟩⟩
  exact (ok_law F22 B C_law_pot C_law_take C_law_heap C_law_own C_law_ends C_law_right C_cut_at).imp (law_sp law_true)
theorem walk {l : PySem.W.OpenLaw} {q : Program} {loose : List Str} {XP : (Str → Option Value) → Heap → Prop} {YP : World → Heap → Prop} {d : DefRec} {K : Params → PySem.W.Frag} (hn : l.most = some 63) (hdf : d.params.defaults = [])
    (hY : ∀ (w : World) (h : Heap), YP w h → (K w.params).In h)
    (F : ∀ (w : World) (mg : Str → Option Value) (fa : Addr) (h : Heap), (K w.params).In h → h.Ns mainGlobals mg → mg d.name = some (.ref fa) →
      ∃ fd : FuncData, (∀ (s : Shared) (u : Value), BindsTo s fd ⟨[u], []⟩ [("script", u)]) ∧ ∀ base : Heap, (K w.params).In base → base.Ns mainGlobals mg → FnOk l.prog w (K w.params) mg base CX0 8 fa fd ["script"] (spLawV (K w.params))) :
    PySem.W.WalkO q loose XP YP l.row.toRowW d [] (fun f vs => PySem.call f vs) :=
  L2.walk_ofK (n := 63) (k := 8) (x := "script") (CX := CX0) (sp := spLawV) hn (by decide) hdf ⟨rfl, by decide, by decide, rfl⟩ hY F (fun _ _ a ns hl hO hS => ⟨a, ns, rfl, hO, hl, hS, fun _ => rfl⟩) fun _ _ _ _ z => z
end W12
open PySem PySem.W PyProof.Rows
set_option maxRecDepth 100000 in
set_option maxHeartbeats 0 in
theorem PySem.Challenge.cw_boxcover_k12_cuts_told_holds : PySem.Challenge.rw_boxcover_k12_cuts_told.Holds := by
  w_on; o_law; k_head; (case hw => w_witness2)
  k_fill
  refine W12.walk (l := PySem.Challenge.rw_boxcover_k12_cuts_told) rfl rfl (fun w h Y => PySem.W.kIn_of Y) ?F
  case F =>
    intro w mg fa h KX G hmg
    refine' W12.tops KX G hmg ?a1 ?l1 ?c1 ?k1 ?a2 ?l2 ?c2 ?k2 ?a3 ?l3 ?c3 ?k3 ?a4 ?l4 ?c4 ?k4 ?a5 ?l5 ?c5 ?k5 ?a6 ?l6 ?c6 ?k6 ?a7 ?l7 ?c7 ?k7 ?a8 ?l8 ?c8 ?k8 ?a9 ?l9 ?c9 ?k9 ?a10 ?l10 ?c10 ?k10 ?a11 ?l11 ?c11 ?k11 ?a12 ?l12 ?c12 ?k12 ?a13 ?l13 ?c13 ?k13 ?a14 ?l14 ?c14 ?k14 ?a15 ?l15 ?c15 ?k15 ?a16 ?l16 ?c16 ?k16 ?a17 ?l17 ?c17 ?k17 ?a18 ?l18 ?c18 ?k18 ?a19 ?l19 ?c19 ?k19 ?a20 ?l20 ?c20 ?k20 ?a21 ?l21 ?c21 ?k21 ?a22 ?l22 ?c22 ?k22 ?z1 ?z2 ?z3 ?z4 ?z5 ?z6 ?z7 ?z8 ?z9 ?z10 ?z11 ?z12 ?z13 ?z14 ?z15 ?zBz ?aM ?hM ?lM ?e1 ?e2 ?e3
    (case a1 => k_is); (case l1 => k_is); (case c1 => k_is); (case k1 => k_is)
    (case a2 => k_is); (case l2 => k_is); (case c2 => k_is); (case k2 => k_is)
    (case a3 => k_is); (case l3 => k_is); (case c3 => k_is); (case k3 => k_is)
    (case a4 => k_is); (case l4 => k_is); (case c4 => k_is); (case k4 => k_is)
    (case a5 => k_is); (case l5 => k_is); (case c5 => k_is); (case k5 => k_is)
    (case a6 => k_is); (case l6 => k_is); (case c6 => k_is); (case k6 => k_is)
    (case a7 => k_is); (case l7 => k_is); (case c7 => k_is); (case k7 => k_is)
    (case a8 => k_is); (case l8 => k_is); (case c8 => k_is); (case k8 => k_is)
    (case a9 => k_is); (case l9 => k_is); (case c9 => k_is); (case k9 => k_is)
    (case a10 => k_is); (case l10 => k_is); (case c10 => k_is); (case k10 => k_is)
    (case a11 => k_is); (case l11 => k_is); (case c11 => k_is); (case k11 => k_is)
    (case a12 => k_is); (case l12 => k_is); (case c12 => k_is); (case k12 => k_is)
    (case a13 => k_is); (case l13 => k_is); (case c13 => k_is); (case k13 => k_is)
    (case a14 => k_is); (case l14 => k_is); (case c14 => k_is); (case k14 => k_is)
    (case a15 => k_is); (case l15 => k_is); (case c15 => k_is); (case k15 => k_is)
    (case a16 => k_is); (case l16 => k_is); (case c16 => k_is); (case k16 => k_is)
    (case a17 => k_is); (case l17 => k_is); (case c17 => k_is); (case k17 => k_is)
    (case a18 => k_is); (case l18 => k_is); (case c18 => k_is); (case k18 => k_is)
    (case a19 => k_is); (case l19 => k_is); (case c19 => k_is); (case k19 => k_is)
    (case a20 => k_is); (case l20 => k_is); (case c20 => k_is); (case k20 => k_is)
    (case a21 => k_is); (case l21 => k_is); (case c21 => k_is); (case k21 => k_is)
    (case a22 => k_is); (case l22 => k_is); (case c22 => k_is); (case k22 => k_is)
    (case z1 => k_is); (case z2 => k_is); (case z3 => k_is); (case z4 => k_is); (case z5 => k_is); (case z6 => k_is); (case z7 => k_is); (case z8 => k_is); (case z9 => k_is); (case z10 => k_is); (case z11 => k_is); (case z12 => k_is); (case z13 => k_is); (case z14 => k_is); (case z15 => k_is)
    (case zBz => k_is)
    (case aM => k_is); (case lM => k_is)
    (case hM => rfl); (case e1 => rfl); (case e2 => rfl); (case e3 => rfl)
end
